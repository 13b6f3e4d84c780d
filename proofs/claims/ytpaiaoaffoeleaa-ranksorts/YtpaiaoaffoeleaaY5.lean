/- Go's symMerge, the step where both rows are long, and all of it. -/
import Derived.Test.YtpaiaoaffoeleaaY4
namespace Go.Proofs.Ytpaiaoaffoeleaa
open Go.Shelf Go.RowKit Go.Lib Go.Sort
set_option linter.unusedVariables false
variable {P : Program} {α : Type} [Inhabited α] {k : Nat} {enc : α → List Value}

set_option maxHeartbeats 16000000 in
set_option maxRecDepth 1000000 in
/-- Both rows have more than one: they are parted, rotated, and each half is merged by itself. -/
theorem sym_step (L : Bear P k) (T : α → α → Prop) (ht : ∀ x y z, T x y → T y z → T x z) (cf : α → α → Int) (g : Nat) (cb : Array Value) (blk off cap : Nat) (d0 : Array α) (w0 : World)
    (eg : ∀ args w, (callFunc g args).run P w = .ok (.enter g args) w) (hcmp : CmpLays P g cb enc k cf blk off d0.size w0) (R : RowK enc k w0 blk off d0) (a m b : Nat) (d : Array α) (w : World) (hs : d0.size = d.size) (S : SWK enc k w0 blk off d w) (ham : a < m) (hmb : m < b) (hb : b ≤ d.size) (hsz : d.size < 4611686018427387904)
    (h1 : Ris T a m d) (h2 : Ris T m b d) (hcr : Cross4 T (ltOf cf) a m b d) (hm : a + 1 < m) (hm2 : m + 1 < b)
    (ih : ∀ a' m' b' (d' : Array α) (w' : World), b' - a' < b - a → d0.size = d'.size → SWK enc k w0 blk off d' w' → a' < m' → m' < b' → b' ≤ d'.size → Ris T a' m' d' → Ris T m' b' d' → Cross4 T (ltOf cf) a' m' b' d' →
      Calls P 28 #[.slice (some ⟨blk, off, none⟩) d'.size cap, .int .i64 a', .int .i64 m', .int .i64 b', .func (.func g) #[] cb] w' fun e w'' => e = .returned (.tuple #[]) ∧ MergedTo T enc k w0 blk off a' b' d' w'') :
    Calls P 28 #[.slice (some ⟨blk, off, none⟩) d.size cap, .int .i64 a, .int .i64 m, .int .i64 b, .func (.func g) #[] cb] w fun e w' => e = .returned (.tuple #[]) ∧ MergedTo T enc k w0 blk off a b d w' := by
  have mixed := L.mixed; have t0 := L.t0; have a0 := L.a0; have z0 := L.z0; have v0 := L.v0; have t3 := L.t3; have a3 := L.a3; have z3 := L.z3; have v3 := L.v3; have t4 := L.t4; have a4 := L.a4; have z4 := L.z4; have v4 := L.v4; have t34 := L.t34; have a34 := L.a34; have z34 := L.z34; have v34 := L.v34; have t46 := L.t46; have a46 := L.a46; have z46 := L.z46; have v46 := L.v46; have t51 := L.t51; have a51 := L.a51; have z51 := L.z51; have v51 := L.v51; have aE := L.aE; have zE := L.zE
  have FG := L.f28
  have HC : Aside _ := hcmp
  have S0 : Aside (SWK enc k w0 blk off d w) := S
  have H1 : Aside (Ris T a m d) := h1
  have H2 : Aside (Ris T m b d) := h2
  have HX : Aside (Cross4 T (ltOf cf) a m b d) := hcr
  have HT : Aside (∀ x y z, T x y → T y z → T x z) := ht
  clear S hcmp h1 h2 hcr ht
  have IH : Aside _ := ih
  clear ih
  have e28 : ∀ args w, (callFunc 28 args).run P w = .ok (.enter 28 args) w := enters_of L.f28 (by kernel_rfl) rfl
  have e29 : ∀ args w, (callFunc 29 args).run P w = .ok (.enter 29 args) w := enters_of L.f29 (by kernel_rfl) rfl
  have hq : ((m : Int) - (a : Int) == 1) = false := by simp; omega
  have hq2 : ((b : Int) - (m : Int) == 1) = false := by simp; omega
  obtain ⟨mid, hmid⟩ : ∃ mid, (a + b) / 2 = mid := ⟨_, rfl⟩
  have hmidz : ((a : Int) + (b : Int)) / 2 = (mid : Int) := by omega
  have hmid1 : 2 * mid ≤ a + b := by omega
  have hmid2 : a + b ≤ 2 * mid + 1 := by omega
  clear hmid
  obtain ⟨s0, r0, hsr⟩ : ∃ s0 r0, Cuts a m b mid s0 r0 ∧ ((mid < m ∧ s0 = mid + m - b ∧ r0 = mid) ∨ (m ≤ mid ∧ s0 = a ∧ r0 = m)) := by
    by_cases h : mid < m
    · exact ⟨mid + m - b, mid, cuts_hi (by omega) (by omega) (by omega) (by omega) h hmb, .inl ⟨h, rfl, rfl⟩⟩
    · exact ⟨a, m, cuts_lo (by omega) (by omega) (by omega) (by omega) ham, .inr ⟨by omega, rfl, rfl⟩⟩
  obtain ⟨C, hsr⟩ := hsr
  have CU : Aside (Cuts a m b mid s0 r0) := C
  have u1 := C.a0; have u2 := C.sr; have u3 := C.rm; have u4 := C.rmid; have u5 := C.mid1; have u6 := C.mid2; have u7 := C.sb
  clear C
  go_enter FG, Try.ntmps28
  go_upto_if 140 with fail
  go_cut [20, 21] (fun s20 s21 wx => s20 = .int .i64 s0 ∧ s21 = .int .i64 r0 ∧ w = wx)
  case first =>
    as_aux_lemma =>
      rcases hsr with ⟨h, e5, e6⟩ | ⟨h, e5, e6⟩
      · have E5 := Lib.hid e5
        have E6 := Lib.hid e6
        clear e5 e6
        have hz : (mid : Int) < (m : Int) := by omega
        have hgt : decide ((m : Int) > (mid : Int)) = true := by simp; omega
        go_wp2
        go_meet
        exact ⟨by rw [E5.out]; first | rfl | go_num | (congr 1; omega), by rw [E6.out], rfl⟩
      · have E5 := Lib.hid e5
        have E6 := Lib.hid e6
        clear e5 e6
        have hz : ¬ (mid : Int) < (m : Int) := by omega
        have hgt : decide ((m : Int) > (mid : Int)) = false := by simp; omega
        go_wp2
        go_meet
        exact ⟨by rw [E5.out], by rw [E6.out], rfl⟩
  case rest =>
    clear hsr
    obtain ⟨rfl, rfl, rfl⟩ := hcut
    go_wp2
    go_loopg [20, 21] (r0 - s0) (fun kx s20 s21 wr => ∃ s r : Nat, s20 = .int .i64 s ∧ s21 = .int .i64 r ∧ s0 ≤ s ∧ s ≤ r ∧ r ≤ r0 ∧ r - s ≤ kx ∧ Aside (SWK enc k w0 blk off d wr) ∧ Aside (s0 < s → T d[s - 1]! d[mid + m - s]!) ∧ Aside (r < r0 → T d[mid + m - 1 - r]! d[r]!))
    case atStart => exact ⟨s0, r0, rfl, rfl, Nat.le_refl _, u2, Nat.le_refl _, Nat.le_refl _, S0, (fun h => by omega : s0 < s0 → _), (fun h => by omega : r0 < r0 → _)⟩
    case round =>
      clear S0
      obtain ⟨s, r, rfl, rfl, hs0, hsr, hr0, hkx, S1, Q1, Q2⟩ := hrel
      by_cases hlt : s < r
      · have hltz : (s : Int) < (r : Int) := by omega
        obtain ⟨h, hh⟩ : ∃ h, (s + r) / 2 = h := ⟨_, rfl⟩
        have hhz : ((s : Int) + (r : Int)) / 2 = (h : Int) := by omega
        have hh1 : s ≤ h := by omega
        have hh2 : h < r := by omega
        obtain ⟨pc, hpc⟩ : ∃ pc, mid + m - 1 - h = pc := ⟨_, rfl⟩
        have hpz : (mid : Int) + (m : Int) - 1 - (h : Int) = (pc : Int) := by omega
        have hp1 : m ≤ pc := by omega
        have hp2 : pc < b := by omega
        have HP := Lib.hid hpc
        clear hh hpc
        cases hl : ltOf cf d[pc]! d[h]! with
        | false =>
          as_aux_lemma =>
            have Q3 : Aside (s0 < h + 1 → T d[h + 1 - 1]! d[mid + m - (h + 1)]!) := (fun _ => by rw [Nat.add_sub_cancel, show mid + m - (h + 1) = mid + m - 1 - h by omega, HP.out]; exact (HX.out h pc (by omega) (by omega) (by omega) (by omega)).2 hl : s0 < h + 1 → T d[h + 1 - 1]! d[mid + m - (h + 1)]!)
            have ea1a : ((pc : Int)).toNat = pc := by omega
            have pa1a : (0 : Int) ≤ (pc : Int) := by omega
            have ba1a : (pc : Int) < (d.size : Int) := by omega
            have ra1a : IntKind.i64.wrap ((pc : Int)) = (pc : Int) := by rw [IntKind.wrap_i64]; omega
            have ea1b : ((h : Int)).toNat = h := by omega
            have pa1b : (0 : Int) ≤ (h : Int) := by omega
            have ba1b : (h : Int) < (d.size : Int) := by omega
            have ra1b : IntKind.i64.wrap ((h : Int)) = (h : Int) := by rw [IntKind.wrap_i64]; omega
            obtain ⟨x1, hx1⟩ : ∃ x, x = d[pc]! := ⟨_, rfl⟩
            obtain ⟨y1, hy1⟩ : ∃ x, x = d[h]! := ⟨_, rfl⟩
            have l1a := S1.out.ld R (by omega) P (pc) (by omega)
            have l1b := S1.out.ld R (by omega) P (h) (by omega)
            rw [← hx1] at l1a
            rw [← hy1] at l1b
            have hc1 := S1.out.cmp HC.out (by omega) x1 y1
            have hv1 : ¬ cf x1 y1 < 0 := by rw [hx1, hy1]; exact of_decide_eq_false hl
            have hd1 : decide (cf x1 y1 < 0) = false := decide_eq_false hv1
            clear hx1 hy1
            go_wp2_with fail
            go_quiet_grown (first | (go_at_fn g; refine Calls.grown_of (hc1 _ _)))
            have S2 : Aside (SWK enc k w0 blk off d (grow (wr.drewN nq) osq)) := S1.out.grown nq osq
            clear l1a l1b hc1 S1
            generalize grow (wr.drewN nq) osq = w2 at S2 ⊢
            clear nq osq
            clear hl
            go_wp2
            go_roundg (r - (h + 1))
            case measure => omega
            case rel => exact ⟨h + 1, r, by go_num, rfl, by omega, by omega, hr0, Nat.le_refl _, S2, Q3, Q2⟩
        | true =>
          as_aux_lemma =>
            have Q3 : Aside (h < r0 → T d[mid + m - 1 - h]! d[h]!) := (fun _ => by rw [HP.out]; exact (HX.out h pc (by omega) (by omega) (by omega) (by omega)).1 hl : h < r0 → T d[mid + m - 1 - h]! d[h]!)
            have ea2a : ((pc : Int)).toNat = pc := by omega
            have pa2a : (0 : Int) ≤ (pc : Int) := by omega
            have ba2a : (pc : Int) < (d.size : Int) := by omega
            have ra2a : IntKind.i64.wrap ((pc : Int)) = (pc : Int) := by rw [IntKind.wrap_i64]; omega
            have ea2b : ((h : Int)).toNat = h := by omega
            have pa2b : (0 : Int) ≤ (h : Int) := by omega
            have ba2b : (h : Int) < (d.size : Int) := by omega
            have ra2b : IntKind.i64.wrap ((h : Int)) = (h : Int) := by rw [IntKind.wrap_i64]; omega
            obtain ⟨x2, hx2⟩ : ∃ x, x = d[pc]! := ⟨_, rfl⟩
            obtain ⟨y2, hy2⟩ : ∃ x, x = d[h]! := ⟨_, rfl⟩
            have l2a := S1.out.ld R (by omega) P (pc) (by omega)
            have l2b := S1.out.ld R (by omega) P (h) (by omega)
            rw [← hx2] at l2a
            rw [← hy2] at l2b
            have hc2 := S1.out.cmp HC.out (by omega) x2 y2
            have hv2 : cf x2 y2 < 0 := by rw [hx2, hy2]; exact of_decide_eq_true hl
            have hd2 : decide (cf x2 y2 < 0) = true := decide_eq_true hv2
            clear hx2 hy2
            go_wp2_with fail
            go_quiet_grown (first | (go_at_fn g; refine Calls.grown_of (hc2 _ _)))
            have S2 : Aside (SWK enc k w0 blk off d (grow (wr.drewN nq) osq)) := S1.out.grown nq osq
            clear l2a l2b hc2 S1
            generalize grow (wr.drewN nq) osq = w2 at S2 ⊢
            clear nq osq
            clear hl
            go_wp2
            go_roundg (h - s)
            case measure => omega
            case rel => exact ⟨s, h, rfl, rfl, by omega, by omega, by omega, Nat.le_refl _, S2, Q1, Q3⟩
      · have hltz : ¬ (s : Int) < (r : Int) := by omega
        obtain rfl : s = r := by omega
        clear hlt hsr hkx
        obtain ⟨e, he⟩ : ∃ e, mid + m - s = e := ⟨_, rfl⟩
        have hez : (mid : Int) + (m : Int) - (s : Int) = (e : Int) := by omega
        have e1 : m ≤ e := by omega
        have e2 : e ≤ b := by omega
        have PP : Aside (∀ d1, Rot s m e d d1 → Parted T (ltOf cf) a s mid e b d1) := (fun d1 r => by rw [← he] at r ⊢; exact CU.out.parted HT.out H1.out H2.out HX.out hs0 hr0 Q1.out Q2.out r : ∀ d1, Rot s m e d d1 → Parted T (ltOf cf) a s mid e b d1)
        have e3 : e ≤ mid + m - s := by omega
        have e4 : mid + m - s ≤ e := by omega
        clear he Q1 Q2
        obtain ⟨q, hq5⟩ : ∃ q, decide (s < m ∧ m < e) = q := ⟨_, rfl⟩
        have HQ := Lib.hid hq5
        clear hq5
        go_upto_region 39 with fail
        go_cut [185] (fun s185 wx => s185 = .bool q ∧ wr = wx)
        case first =>
          as_aux_lemma =>
            by_cases c1 : s < m
            · have z1 : (s : Int) < (m : Int) := by omega
              by_cases c2 : m < e
              · have z2 : (m : Int) < (e : Int) := by omega
                go_wp2
                go_meet
                exact ⟨by rw [← HQ.out]; simp [c1, c2], rfl⟩
              · have z2 : ¬ (m : Int) < (e : Int) := by omega
                go_wp2
                go_meet
                exact ⟨by rw [← HQ.out]; simp [c1, c2], rfl⟩
            · have z1 : ¬ (s : Int) < (m : Int) := by omega
              go_wp2
              go_meet
              exact ⟨by rw [← HQ.out]; simp [c1], rfl⟩
        case rest =>
        obtain ⟨rfl, rfl⟩ := hcut
        go_upto_if 185 with fail
        go_cut [24] (fun s24 wx => s24 = .int .i64 e ∧ RotTo enc k w0 blk off s m e d wx)
        case first =>
          as_aux_lemma =>
            cases q
            · have hn : ¬ (s < m ∧ m < e) := of_decide_eq_false HQ.out
              go_wp2
              go_meet
              by_cases c1 : s < m
              · exact ⟨rfl, d, by rw [show e = m by omega]; exact rot_none (by omega), S1.out⟩
              · exact ⟨rfl, d, by rw [show s = m by omega]; exact rot_none' e1, S1.out⟩
            · obtain ⟨c1, c2⟩ := of_decide_eq_true HQ.out
              have c := rotate_any (enc := enc) L g cb blk off cap s m e d0 d w0 wr R hs S1.out c1 c2 (by omega) hsz
              have CC := Lib.hid c
              clear c
              go_wp2_with fail
              refine CC.out.mono ?_
              rintro q w2 ⟨rfl, d1, r1, s1⟩
              have RT : Aside (RotTo enc k w0 blk off s m e d w2) := (⟨d1, r1, s1⟩ : RotTo enc k w0 blk off s m e d w2)
              clear r1 s1 CC S1
              go_wp2
              go_meet
              exact ⟨rfl, RT.out⟩
        case rest =>
          clear S1
          obtain ⟨rfl, d1, r1, s1⟩ := hcut
          have sz1 : d1.size = d.size := r1.size
          have PR : Aside (Rot s m e d d1) := r1
          have PD : Aside (Parted T (ltOf cf) a s mid e b d1) := PP.out d1 r1
          have S1 : Aside (SWK enc k w0 blk off d1 wc) := s1
          clear PP r1 s1
          obtain ⟨q2, hq6⟩ : ∃ q, decide (a < s ∧ s < mid) = q := ⟨_, rfl⟩
          have HQ2 := Lib.hid hq6
          clear hq6
          go_upto_region 41 with fail
          go_cut [199] (fun s199 wx => s199 = .bool q2 ∧ wc = wx)
          case first =>
            as_aux_lemma =>
              by_cases c1 : a < s
              · have z1 : (a : Int) < (s : Int) := by omega
                by_cases c2 : s < mid
                · have z2 : (s : Int) < (mid : Int) := by omega
                  go_wp2
                  go_meet
                  exact ⟨by rw [← HQ2.out]; simp [c1, c2], rfl⟩
                · have z2 : ¬ (s : Int) < (mid : Int) := by omega
                  go_wp2
                  go_meet
                  exact ⟨by rw [← HQ2.out]; simp [c1, c2], rfl⟩
              · have z1 : ¬ (a : Int) < (s : Int) := by omega
                go_wp2
                go_meet
                exact ⟨by rw [← HQ2.out]; simp [c1], rfl⟩
          case rest =>
          obtain ⟨rfl, rfl⟩ := hcut
          go_upto_if 199 with fail
          go_cut [24] (fun s24 wx => s24 = .int .i64 e ∧ MergedTo T enc k w0 blk off a mid d1 wx)
          case first =>
            as_aux_lemma =>
              cases q2
              · have hn : ¬ (a < s ∧ s < mid) := of_decide_eq_false HQ2.out
                go_wp2
                go_meet
                by_cases c1 : a < s
                · exact ⟨rfl, d1, permIn_refl _ _ _, by have := PD.out.l1; rwa [show s = mid by omega] at this, S1.out⟩
                · exact ⟨rfl, d1, permIn_refl _ _ _, by have := PD.out.l2; rwa [show s = a by omega] at this, S1.out⟩
              · obtain ⟨c1, c2⟩ := of_decide_eq_true HQ2.out
                have c := IH.out a s mid d1 _ (by omega) (by omega) S1.out c1 c2 (by omega) PD.out.l1 PD.out.l2 PD.out.c1
                rw [sz1] at c
                have CC := Lib.hid c
                clear c
                go_wp2_with fail
                refine CC.out.mono ?_
                rintro q w2 ⟨rfl, mt⟩
                have MT : Aside (MergedTo T enc k w0 blk off a mid d1 w2) := mt
                clear mt CC S1
                go_wp2
                go_meet
                exact ⟨rfl, MT.out⟩
          case rest =>
            clear S1
            obtain ⟨rfl, d2, p2, m2, s2⟩ := hcut
            have sz2 : d2.size = d.size := p2.1.trans sz1
            have P2 : Aside (PermIn a mid d1 d2) := p2
            have M2 : Aside (Ris T a mid d2) := m2
            have S2 : Aside (SWK enc k w0 blk off d2 wc) := s2
            have FIN : Aside (∀ d3, PermIn mid b d2 d3 → Ris T mid b d3 → PermIn a b d d3 ∧ Ris T a b d3) := (fun d3 p3 r3 => by
              have j := joined4 (by omega) (by omega) (by omega) P2.out p3 M2.out r3 PD.out.ah
              exact ⟨permIn_trans _ _ _ _ _ (permIn_mono _ _ s e a b (by omega) e2 hb PR.out.perm) j.1, j.2⟩ : ∀ d3, PermIn mid b d2 d3 → Ris T mid b d3 → PermIn a b d d3 ∧ Ris T a b d3)
            clear p2 m2 s2
            by_cases c1 : mid < e
            · have z1 : (mid : Int) < (e : Int) := by omega
              by_cases c2 : e < b
              · have z2 : (e : Int) < (b : Int) := by omega
                have c := IH.out mid e b d2 wc (by omega) (by omega) S2.out c1 c2 (by omega) (PD.out.l3.perm P2.out (.inr (by omega))) (PD.out.l4.perm P2.out (.inr (by omega))) (PD.out.c2.perm P2.out (.inr (by omega)))
                rw [sz2] at c
                have CC := Lib.hid c
                clear c
                go_wp2_with fail
                refine CC.out.mono ?_
                rintro q w2 ⟨rfl, mt⟩
                have MT : Aside (MergedTo T enc k w0 blk off mid b d2 w2) := mt
                clear mt CC S2
                go_wp2
                go_end0
                obtain ⟨d3, p3, r3, s3⟩ := MT.out
                obtain ⟨f1, f2⟩ := FIN.out d3 p3 r3
                exact ⟨rfl, d3, f1, f2, s3⟩
              · have z2 : ¬ (e : Int) < (b : Int) := by omega
                go_wp2
                go_end0
                obtain ⟨f1, f2⟩ := FIN.out d2 (permIn_refl _ _ _) (by have := PD.out.l3.perm P2.out (.inr (by omega)); rwa [show e = b by omega] at this)
                exact ⟨rfl, d2, f1, f2, S2.out⟩
            · have z1 : ¬ (mid : Int) < (e : Int) := by omega
              go_wp2
              go_end0
              obtain ⟨f1, f2⟩ := FIN.out d2 (permIn_refl _ _ _) (by have := PD.out.l4.perm P2.out (.inr (by omega)); rwa [show e = mid by omega] at this)
              exact ⟨rfl, d2, f1, f2, S2.out⟩

/-- symMerge: two rows that rise, one behind the other, become one. -/
theorem sym_all (L : Bear P k) (T : α → α → Prop) (ht : ∀ x y z, T x y → T y z → T x z) (cf : α → α → Int) (g : Nat) (cb : Array Value) (blk off cap : Nat) (d0 : Array α) (w0 : World)
    (eg : ∀ args w, (callFunc g args).run P w = .ok (.enter g args) w) (hcmp : CmpLays P g cb enc k cf blk off d0.size w0) (R : RowK enc k w0 blk off d0) (hsz : d0.size < 4611686018427387904) :
    ∀ (n a m b : Nat) (d : Array α) (w : World), b - a < n → d0.size = d.size → SWK enc k w0 blk off d w → a < m → m < b → b ≤ d.size → Ris T a m d → Ris T m b d → Cross4 T (ltOf cf) a m b d →
      Calls P 28 #[.slice (some ⟨blk, off, none⟩) d.size cap, .int .i64 a, .int .i64 m, .int .i64 b, .func (.func g) #[] cb] w fun e w' => e = .returned (.tuple #[]) ∧ MergedTo T enc k w0 blk off a b d w' := by
  intro n
  induction n with
  | zero => intro a m b d w hn; omega
  | succ n ih =>
    intro a m b d w hn hs S ham hmb hb h1 h2 hc
    by_cases c1 : m = a + 1
    · exact sym_left L T ht cf g cb blk off cap d0 w0 eg hcmp R a m b d w hs S ham hmb hb (by omega) h1 h2 hc c1
    · by_cases c2 : b = m + 1
      · exact sym_right L T ht cf g cb blk off cap d0 w0 eg hcmp R a m b d w hs S ham hmb hb (by omega) h1 h2 hc (by omega) c2
      · exact sym_step L T ht cf g cb blk off cap d0 w0 eg hcmp R a m b d w hs S ham hmb hb (by omega) h1 h2 hc (by omega) (by omega) (fun a' m' b' d' w' hlt => ih a' m' b' d' w' (by omega))

end Go.Proofs.Ytpaiaoaffoeleaa
