/- Go's symMerge walked, over any program that bears its body: two rows that rise, one behind the other, become one. -/
import Derived.Test.YtpaiaoaffoeleaaV4
import Derived.Test.YtpaiaoaffoeleaaX4
import Derived.Deep.DeepCutAuto
namespace Go.Proofs.Ytpaiaoaffoeleaa
open Go.Shelf Go.RowKit Go.Lib Go.Sort
set_option linter.unusedVariables false
variable {P : Program} {α : Type} [Inhabited α] {k : Nat} {enc : α → List Value}

/-- What symMerge leaves. -/
def MergedTo (T : α → α → Prop) (enc : α → List Value) (k : Nat) (w0 : World) (blk off a b : Nat) (d : Array α) (w' : World) : Prop :=
  ∃ d', PermIn a b d d' ∧ Ris T a b d' ∧ SWK enc k w0 blk off d' w'
/-- [s, m) and [m, e) rotated, in memory. -/
def RotTo (enc : α → List Value) (k : Nat) (w0 : World) (blk off s m e : Nat) (d : Array α) (w' : World) : Prop :=
  ∃ d', Rot s m e d d' ∧ SWK enc k w0 blk off d' w'

set_option maxHeartbeats 16000000 in
set_option maxRecDepth 1000000 in
/-- One row has one element alone: the first. -/
theorem sym_left (L : Bear P k) (T : α → α → Prop) (ht : ∀ x y z, T x y → T y z → T x z) (cf : α → α → Int) (g : Nat) (cb : Array Value) (blk off cap : Nat) (d0 : Array α) (w0 : World)
    (eg : ∀ args w, (callFunc g args).run P w = .ok (.enter g args) w) (hcmp : CmpLays P g cb enc k cf blk off d0.size w0) (R : RowK enc k w0 blk off d0) (a m b : Nat) (d : Array α) (w : World) (hs : d0.size = d.size) (S : SWK enc k w0 blk off d w) (ham : a < m) (hmb : m < b) (hb : b ≤ d.size) (hsz : d.size < 4611686018427387904)
    (h1 : Ris T a m d) (h2 : Ris T m b d) (hcr : Cross4 T (ltOf cf) a m b d) (hm : m = a + 1) :
    Calls P 28 #[.slice (some ⟨blk, off, none⟩) d.size cap, .int .i64 a, .int .i64 m, .int .i64 b, .func (.func g) #[] cb] w fun e w' => e = .returned (.tuple #[]) ∧ MergedTo T enc k w0 blk off a b d w' := by
  have mixed := L.mixed; have t0 := L.t0; have a0 := L.a0; have z0 := L.z0; have v0 := L.v0; have t3 := L.t3; have a3 := L.a3; have z3 := L.z3; have v3 := L.v3; have t4 := L.t4; have a4 := L.a4; have z4 := L.z4; have v4 := L.v4; have t34 := L.t34; have a34 := L.a34; have z34 := L.z34; have v34 := L.v34; have t46 := L.t46; have a46 := L.a46; have z46 := L.z46; have v46 := L.v46; have t51 := L.t51; have a51 := L.a51; have z51 := L.z51; have v51 := L.v51; have aE := L.aE; have zE := L.zE
  have FG := L.f28
  have HC : Aside _ := hcmp
  have S0 : Aside (SWK enc k w0 blk off d w) := S
  have H1 : Aside (Ris T a m d) := h1
  have H2 : Aside (Ris T m b d) := h2
  have HX : Aside (Cross4 T (ltOf cf) a m b d) := hcr
  have HT : Aside (∀ x y z, T x y → T y z → T x z) := ht
  clear S hcmp h1 h2 hcr ht
  have HM : Hid (m = a + 1) := hm
  have hq : ((m : Int) - (a : Int) == 1) = true := by simp; omega
  have hq2 : (m : Int) - (a : Int) = 1 := by omega
  have hm1 : m ≤ a + 1 := by omega
  clear hm hq2
  go_enter FG, Try.ntmps28
  go_wp2
  go_loopg [10, 11] (b - m) (fun kx s10 s11 wr => ∃ i j : Nat, s10 = .int .i64 i ∧ s11 = .int .i64 j ∧ m ≤ i ∧ i ≤ j ∧ j ≤ b ∧ j - i ≤ kx ∧ Aside (SWK enc k w0 blk off d wr) ∧ Aside (m < i → T d[i - 1]! d[a]!) ∧ Aside (j < b → T d[a]! d[j]!))
  case atStart => exact ⟨m, b, rfl, rfl, Nat.le_refl _, by omega, Nat.le_refl _, Nat.le_refl _, S0, (fun h => by omega : m < m → _), (fun h => by omega : b < b → _)⟩
  case round =>
    clear S0
    obtain ⟨i, j, rfl, rfl, hmi, hij, hjb, hkx, S1, Q1, Q2⟩ := hrel
    by_cases hlt : i < j
    · have hltz : (i : Int) < (j : Int) := by omega
      obtain ⟨h, hh⟩ : ∃ h, (i + j) / 2 = h := ⟨_, rfl⟩
      have hhz : ((i : Int) + (j : Int)) / 2 = (h : Int) := by omega
      have hh1 : i ≤ h := by omega
      have hh2 : h < j := by omega
      clear hh
      cases hl : ltOf cf d[h]! d[a]! with
      | true =>
        have Q3 : Aside (m < h + 1 → T d[h + 1 - 1]! d[a]!) := (fun _ => by rw [Nat.add_sub_cancel]; exact (HX.out a h (Nat.le_refl _) (by omega) (by omega) (by omega)).1 hl : m < h + 1 → T d[h + 1 - 1]! d[a]!)
        have ea1a : ((h : Int)).toNat = h := by omega
        have pa1a : (0 : Int) ≤ (h : Int) := by omega
        have ba1a : (h : Int) < (d.size : Int) := by omega
        have ra1a : IntKind.i64.wrap ((h : Int)) = (h : Int) := by rw [IntKind.wrap_i64]; omega
        have ea1b : ((a : Int)).toNat = a := by omega
        have pa1b : (0 : Int) ≤ (a : Int) := by omega
        have ba1b : (a : Int) < (d.size : Int) := by omega
        have ra1b : IntKind.i64.wrap ((a : Int)) = (a : Int) := by rw [IntKind.wrap_i64]; omega
        obtain ⟨x1, hx1⟩ : ∃ x, x = d[h]! := ⟨_, rfl⟩
        obtain ⟨y1, hy1⟩ : ∃ x, x = d[a]! := ⟨_, rfl⟩
        have l1a := S1.out.ld R (by omega) P (h) (by omega)
        have l1b := S1.out.ld R (by omega) P (a) (by omega)
        rw [← hx1] at l1a
        rw [← hy1] at l1b
        have hc1 := S1.out.cmp HC.out (by omega) x1 y1
        have hv1 : cf x1 y1 < 0 := by rw [hx1, hy1]; exact of_decide_eq_true hl
        have hd1 : decide (cf x1 y1 < 0) = true := decide_eq_true hv1
        clear hx1 hy1
        go_wp2_with fail
        go_quiet_grown (first | (go_at_fn g; refine Calls.grown_of (hc1 _ _)))
        have S2 : Aside (SWK enc k w0 blk off d (grow (wr.drewN nq) osq)) := S1.out.grown nq osq
        clear l1a l1b hc1 S1
        generalize grow (wr.drewN nq) osq = w2 at S2 ⊢
        clear nq osq
        clear hl
        go_wp2
        go_roundg (j - (h + 1))
        case measure => omega
        case rel => exact ⟨h + 1, j, by go_num, rfl, by omega, by omega, hjb, Nat.le_refl _, S2, Q3, Q2⟩
      | false =>
        have Q3 : Aside (h < b → T d[a]! d[h]!) := (fun _ => (HX.out a h (Nat.le_refl _) (by omega) (by omega) (by omega)).2 hl : h < b → T d[a]! d[h]!)
        have ea2a : ((h : Int)).toNat = h := by omega
        have pa2a : (0 : Int) ≤ (h : Int) := by omega
        have ba2a : (h : Int) < (d.size : Int) := by omega
        have ra2a : IntKind.i64.wrap ((h : Int)) = (h : Int) := by rw [IntKind.wrap_i64]; omega
        have ea2b : ((a : Int)).toNat = a := by omega
        have pa2b : (0 : Int) ≤ (a : Int) := by omega
        have ba2b : (a : Int) < (d.size : Int) := by omega
        have ra2b : IntKind.i64.wrap ((a : Int)) = (a : Int) := by rw [IntKind.wrap_i64]; omega
        obtain ⟨x2, hx2⟩ : ∃ x, x = d[h]! := ⟨_, rfl⟩
        obtain ⟨y2, hy2⟩ : ∃ x, x = d[a]! := ⟨_, rfl⟩
        have l2a := S1.out.ld R (by omega) P (h) (by omega)
        have l2b := S1.out.ld R (by omega) P (a) (by omega)
        rw [← hx2] at l2a
        rw [← hy2] at l2b
        have hc2 := S1.out.cmp HC.out (by omega) x2 y2
        have hv2 : ¬ cf x2 y2 < 0 := by rw [hx2, hy2]; exact of_decide_eq_false hl
        have hd2 : decide (cf x2 y2 < 0) = false := decide_eq_false hv2
        clear hx2 hy2
        go_wp2_with fail
        go_quiet_grown (first | (go_at_fn g; refine Calls.grown_of (hc2 _ _)))
        have S2 : Aside (SWK enc k w0 blk off d (grow (wr.drewN nq) osq)) := S1.out.grown nq osq
        clear l2a l2b hc2 S1
        generalize grow (wr.drewN nq) osq = w2 at S2 ⊢
        clear nq osq
        clear hl
        go_wp2
        go_roundg (h - i)
        case measure => omega
        case rel => exact ⟨i, h, rfl, rfl, by omega, by omega, by omega, Nat.le_refl _, S2, Q1, Q3⟩
    · have hltz : ¬ (i : Int) < (j : Int) := by omega
      obtain rfl : i = j := by omega
      go_wp2
      go_loopg [13] (i - a) (fun kx s13 wr2 => ∃ (c : Nat) (dk : Array α), s13 = .int .i64 c ∧ a ≤ c ∧ c + 1 ≤ i ∧ i - c ≤ kx ∧ dk.size = d.size ∧ Aside (SWK enc k w0 blk off dk wr2) ∧ Aside (Rot a (a + 1) (c + 1) d dk))
      case atStart => exact ⟨a, d, rfl, Nat.le_refl _, by omega, Nat.le_refl _, rfl, S1, rot_right_none⟩
      case round =>
        clear S1
        obtain ⟨c, dk, rfl, hac, hci, hkx2, hds, S1, RR⟩ := hrel
        by_cases hlt2 : c + 1 < i
        · have hz2 : (c : Int) < (i : Int) - 1 := by omega
          have R2 : Aside (Rot a (a + 1) (c + 2) d (swp dk c (c + 1))) := rot_right hac (by omega) RR.out
          clear RR
          go_wp2_with fail
          have ea3a : ((c : Int)).toNat = c := by omega
          have pa3a : (0 : Int) ≤ (c : Int) := by omega
          have ba3a : (c : Int) < (d.size : Int) := by omega
          have ra3a : IntKind.i64.wrap ((c : Int)) = (c : Int) := by rw [IntKind.wrap_i64]; omega
          have ea3b : ((c : Int) + 1).toNat = c + 1 := by omega
          have pa3b : (0 : Int) ≤ (c : Int) + 1 := by omega
          have ba3b : (c : Int) + 1 < (d.size : Int) := by omega
          have ra3b : IntKind.i64.wrap ((c : Int) + 1) = (c : Int) + 1 := by rw [IntKind.wrap_i64]; omega
          have S2 : Aside (SWK enc k w0 blk off (swp dk (c) (c + 1)) ((wr.drew.setCells blk (off + (c) * k) (enc dk[c + 1]!)).setCells blk (off + (c + 1) * k) (enc dk[c]!))) := S1.out.swapped R (c) (c + 1) (by omega) (by omega)
          have l3a := S1.out.ld1 R (by omega) P (c) (by omega)
          have l3b := S1.out.ld1 R (by omega) P (c + 1) (by omega)
          have s3a := S1.out.st1 R (by omega) P (c) (by omega) dk[c + 1]!
          have s3b := S1.out.st2 R (by omega) P (c) (c + 1) (by omega) (by omega) dk[c + 1]! dk[c]!
          have n3a : (enc dk[c]!).length = k := R.hk _
          have n3b : (enc dk[c + 1]!).length = k := R.hk _
          generalize enc dk[c]! = cI3 at S2 l3a s3b n3a
          generalize enc dk[c + 1]! = cJ3 at S2 l3b s3a s3b n3b
          clear S1
          go_wp2_with fail
          go_big_region_o
          clear l3a l3b s3a s3b
          generalize (wr.drew.setCells blk (off + (c) * k) cJ3).setCells blk (off + (c + 1) * k) cI3 = w3 at S2 ⊢
          go_wp2
          go_roundg (i - (c + 1))
          case measure => omega
          case rel => exact ⟨c + 1, swp dk c (c + 1), by go_num, by omega, by omega, Nat.le_refl _, by rw [size_swp]; exact hds, S2, R2⟩
        · have hz2 : ¬ (c : Int) < (i : Int) - 1 := by omega
          obtain rfl : i = c + 1 := by omega
          go_wp2
          refine bodyPost_ret (v := .tuple #[]) (by simp [results, Try.results28]) rfl ?_
          obtain ⟨p1, p2⟩ := merge_left HT.out HM.out (by omega) (by omega) hb H1.out H2.out HX.out Q1.out Q2.out RR.out
          exact ⟨rfl, dk, p1, p2, S1.out⟩

set_option maxHeartbeats 16000000 in
set_option maxRecDepth 1000000 in
/-- The other row has one element alone. -/
theorem sym_right (L : Bear P k) (T : α → α → Prop) (ht : ∀ x y z, T x y → T y z → T x z) (cf : α → α → Int) (g : Nat) (cb : Array Value) (blk off cap : Nat) (d0 : Array α) (w0 : World)
    (eg : ∀ args w, (callFunc g args).run P w = .ok (.enter g args) w) (hcmp : CmpLays P g cb enc k cf blk off d0.size w0) (R : RowK enc k w0 blk off d0) (a m b : Nat) (d : Array α) (w : World) (hs : d0.size = d.size) (S : SWK enc k w0 blk off d w) (ham : a < m) (hmb : m < b) (hb : b ≤ d.size) (hsz : d.size < 4611686018427387904)
    (h1 : Ris T a m d) (h2 : Ris T m b d) (hcr : Cross4 T (ltOf cf) a m b d) (hm : a + 1 < m) (hm2 : b = m + 1) :
    Calls P 28 #[.slice (some ⟨blk, off, none⟩) d.size cap, .int .i64 a, .int .i64 m, .int .i64 b, .func (.func g) #[] cb] w fun e w' => e = .returned (.tuple #[]) ∧ MergedTo T enc k w0 blk off a b d w' := by
  have mixed := L.mixed; have t0 := L.t0; have a0 := L.a0; have z0 := L.z0; have v0 := L.v0; have t3 := L.t3; have a3 := L.a3; have z3 := L.z3; have v3 := L.v3; have t4 := L.t4; have a4 := L.a4; have z4 := L.z4; have v4 := L.v4; have t34 := L.t34; have a34 := L.a34; have z34 := L.z34; have v34 := L.v34; have t46 := L.t46; have a46 := L.a46; have z46 := L.z46; have v46 := L.v46; have t51 := L.t51; have a51 := L.a51; have z51 := L.z51; have v51 := L.v51; have aE := L.aE; have zE := L.zE
  have FG := L.f28
  have HC : Aside _ := hcmp
  have S0 : Aside (SWK enc k w0 blk off d w) := S
  have H1 : Aside (Ris T a m d) := h1
  have H2 : Aside (Ris T m b d) := h2
  have HX : Aside (Cross4 T (ltOf cf) a m b d) := hcr
  have HT : Aside (∀ x y z, T x y → T y z → T x z) := ht
  clear S hcmp h1 h2 hcr ht
  have HM : Hid (b = m + 1) := hm2
  have hq : ((m : Int) - (a : Int) == 1) = false := by simp; omega
  have hq2 : ((b : Int) - (m : Int) == 1) = true := by simp; omega
  have hb1 : b ≤ m + 1 := by omega
  clear hm2
  go_enter FG, Try.ntmps28
  go_wp2
  go_loopg [14, 15] (m - a) (fun kx s10 s11 wr => ∃ i j : Nat, s10 = .int .i64 i ∧ s11 = .int .i64 j ∧ a ≤ i ∧ i ≤ j ∧ j ≤ m ∧ j - i ≤ kx ∧ Aside (SWK enc k w0 blk off d wr) ∧ Aside (a < i → T d[i - 1]! d[m]!) ∧ Aside (j < m → T d[m]! d[j]!))
  case atStart => exact ⟨a, m, rfl, rfl, Nat.le_refl _, by omega, Nat.le_refl _, Nat.le_refl _, S0, (fun h => by omega : a < a → _), (fun h => by omega : m < m → _)⟩
  case round =>
    clear S0
    obtain ⟨i, j, rfl, rfl, hmi, hij, hjb, hkx, S1, Q1, Q2⟩ := hrel
    by_cases hlt : i < j
    · have hltz : (i : Int) < (j : Int) := by omega
      obtain ⟨h, hh⟩ : ∃ h, (i + j) / 2 = h := ⟨_, rfl⟩
      have hhz : ((i : Int) + (j : Int)) / 2 = (h : Int) := by omega
      have hh1 : i ≤ h := by omega
      have hh2 : h < j := by omega
      clear hh
      cases hl : ltOf cf d[m]! d[h]! with
      | false =>
        have Q3 : Aside (a < h + 1 → T d[h + 1 - 1]! d[m]!) := (fun _ => by rw [Nat.add_sub_cancel]; exact (HX.out h m (by omega) (by omega) (Nat.le_refl _) (by omega)).2 hl : a < h + 1 → T d[h + 1 - 1]! d[m]!)
        have ea1a : ((m : Int)).toNat = m := by omega
        have pa1a : (0 : Int) ≤ (m : Int) := by omega
        have ba1a : (m : Int) < (d.size : Int) := by omega
        have ra1a : IntKind.i64.wrap ((m : Int)) = (m : Int) := by rw [IntKind.wrap_i64]; omega
        have ea1b : ((h : Int)).toNat = h := by omega
        have pa1b : (0 : Int) ≤ (h : Int) := by omega
        have ba1b : (h : Int) < (d.size : Int) := by omega
        have ra1b : IntKind.i64.wrap ((h : Int)) = (h : Int) := by rw [IntKind.wrap_i64]; omega
        obtain ⟨x1, hx1⟩ : ∃ x, x = d[m]! := ⟨_, rfl⟩
        obtain ⟨y1, hy1⟩ : ∃ x, x = d[h]! := ⟨_, rfl⟩
        have l1a := S1.out.ld R (by omega) P (m) (by omega)
        have l1b := S1.out.ld R (by omega) P (h) (by omega)
        rw [← hx1] at l1a
        rw [← hy1] at l1b
        have hc1 := S1.out.cmp HC.out (by omega) x1 y1
        have hv1 : ¬ cf x1 y1 < 0 := by rw [hx1, hy1]; exact of_decide_eq_false hl
        have hd1 : decide (cf x1 y1 < 0) = false := decide_eq_false hv1
        clear hx1 hy1
        go_wp2_with fail
        go_quiet_grown (first | (go_at_fn g; refine Calls.grown_of (hc1 _ _)))
        have S2 : Aside (SWK enc k w0 blk off d (grow (wr.drewN nq) osq)) := S1.out.grown nq osq
        clear l1a l1b hc1 S1
        generalize grow (wr.drewN nq) osq = w2 at S2 ⊢
        clear nq osq
        clear hl
        go_wp2
        go_roundg (j - (h + 1))
        case measure => omega
        case rel => exact ⟨h + 1, j, by go_num, rfl, by omega, by omega, hjb, Nat.le_refl _, S2, Q3, Q2⟩
      | true =>
        have Q3 : Aside (h < m → T d[m]! d[h]!) := (fun _ => (HX.out h m (by omega) (by omega) (Nat.le_refl _) (by omega)).1 hl : h < m → T d[m]! d[h]!)
        have ea2a : ((m : Int)).toNat = m := by omega
        have pa2a : (0 : Int) ≤ (m : Int) := by omega
        have ba2a : (m : Int) < (d.size : Int) := by omega
        have ra2a : IntKind.i64.wrap ((m : Int)) = (m : Int) := by rw [IntKind.wrap_i64]; omega
        have ea2b : ((h : Int)).toNat = h := by omega
        have pa2b : (0 : Int) ≤ (h : Int) := by omega
        have ba2b : (h : Int) < (d.size : Int) := by omega
        have ra2b : IntKind.i64.wrap ((h : Int)) = (h : Int) := by rw [IntKind.wrap_i64]; omega
        obtain ⟨x2, hx2⟩ : ∃ x, x = d[m]! := ⟨_, rfl⟩
        obtain ⟨y2, hy2⟩ : ∃ x, x = d[h]! := ⟨_, rfl⟩
        have l2a := S1.out.ld R (by omega) P (m) (by omega)
        have l2b := S1.out.ld R (by omega) P (h) (by omega)
        rw [← hx2] at l2a
        rw [← hy2] at l2b
        have hc2 := S1.out.cmp HC.out (by omega) x2 y2
        have hv2 : cf x2 y2 < 0 := by rw [hx2, hy2]; exact of_decide_eq_true hl
        have hd2 : decide (cf x2 y2 < 0) = true := decide_eq_true hv2
        clear hx2 hy2
        go_wp2_with fail
        go_quiet_grown (first | (go_at_fn g; refine Calls.grown_of (hc2 _ _)))
        have S2 : Aside (SWK enc k w0 blk off d (grow (wr.drewN nq) osq)) := S1.out.grown nq osq
        clear l2a l2b hc2 S1
        generalize grow (wr.drewN nq) osq = w2 at S2 ⊢
        clear nq osq
        clear hl
        go_wp2
        go_roundg (h - i)
        case measure => omega
        case rel => exact ⟨i, h, rfl, rfl, by omega, by omega, by omega, Nat.le_refl _, S2, Q1, Q3⟩
    · have hltz : ¬ (i : Int) < (j : Int) := by omega
      obtain rfl : i = j := by omega
      go_wp2
      go_loopg [17] (m - i) (fun kx s13 wr2 => ∃ (c : Nat) (dk : Array α), s13 = .int .i64 c ∧ i ≤ c ∧ c ≤ m ∧ c - i ≤ kx ∧ dk.size = d.size ∧ Aside (SWK enc k w0 blk off dk wr2) ∧ Aside (Rot c m (m + 1) d dk))
      case atStart => exact ⟨m, d, rfl, by omega, Nat.le_refl _, Nat.le_refl _, rfl, S1, rot_left_none⟩
      case round =>
        clear S1
        obtain ⟨c, dk, rfl, hac, hci, hkx2, hds, S1, RR⟩ := hrel
        by_cases hlt2 : i < c
        · have hz2 : (i : Int) < (c : Int) := by omega
          obtain ⟨c, rfl⟩ : ∃ c', c = c' + 1 := ⟨c - 1, by omega⟩
          have hz3 : ((c + 1 : Nat) : Int) = (c : Int) + 1 := by omega
          have R2 : Aside (Rot c m (m + 1) d (swp dk (c + 1) c)) := rot_left (by omega) (by omega) RR.out
          clear RR
          go_wp2_with fail
          have ea3a : ((c : Int) + 1).toNat = c + 1 := by omega
          have pa3a : (0 : Int) ≤ (c : Int) + 1 := by omega
          have ba3a : (c : Int) + 1 < (d.size : Int) := by omega
          have ra3a : IntKind.i64.wrap ((c : Int) + 1) = (c : Int) + 1 := by rw [IntKind.wrap_i64]; omega
          have ea3b : ((c : Int)).toNat = c := by omega
          have pa3b : (0 : Int) ≤ (c : Int) := by omega
          have ba3b : (c : Int) < (d.size : Int) := by omega
          have ra3b : IntKind.i64.wrap ((c : Int)) = (c : Int) := by rw [IntKind.wrap_i64]; omega
          have S2 : Aside (SWK enc k w0 blk off (swp dk (c + 1) (c)) ((wr.drew.setCells blk (off + (c + 1) * k) (enc dk[c]!)).setCells blk (off + (c) * k) (enc dk[c + 1]!))) := S1.out.swapped R (c + 1) (c) (by omega) (by omega)
          have l3a := S1.out.ld1 R (by omega) P (c + 1) (by omega)
          have l3b := S1.out.ld1 R (by omega) P (c) (by omega)
          have s3a := S1.out.st1 R (by omega) P (c + 1) (by omega) dk[c]!
          have s3b := S1.out.st2 R (by omega) P (c + 1) (c) (by omega) (by omega) dk[c]! dk[c + 1]!
          have n3a : (enc dk[c + 1]!).length = k := R.hk _
          have n3b : (enc dk[c]!).length = k := R.hk _
          generalize enc dk[c + 1]! = cI3 at S2 l3a s3b n3a
          generalize enc dk[c]! = cJ3 at S2 l3b s3a s3b n3b
          clear S1
          go_wp2_with fail
          go_big_region_o
          clear l3a l3b s3a s3b
          generalize (wr.drew.setCells blk (off + (c + 1) * k) cJ3).setCells blk (off + (c) * k) cI3 = w3 at S2 ⊢
          go_wp2
          go_roundg (c - i)
          case measure => omega
          case rel => exact ⟨c, swp dk (c + 1) c, by first | rfl | go_num | (congr 1; omega), by omega, by omega, Nat.le_refl _, by rw [size_swp]; exact hds, S2, R2⟩
        · have hz2 : ¬ (i : Int) < (c : Int) := by omega
          obtain rfl : i = c := by omega
          go_wp2
          refine bodyPost_ret (v := .tuple #[]) (by simp [results, Try.results28]) rfl ?_
          obtain ⟨p1, p2⟩ := merge_right HT.out HM.out (by omega) (by omega) hb H1.out H2.out HX.out Q1.out Q2.out RR.out
          exact ⟨rfl, dk, p1, p2, S1.out⟩

end Go.Proofs.Ytpaiaoaffoeleaa
