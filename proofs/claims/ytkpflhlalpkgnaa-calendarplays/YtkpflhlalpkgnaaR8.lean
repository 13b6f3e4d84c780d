/- CalendarDrops, walked. -/
import Derived.Test.YtkpflhlalpkgnaaQ8
namespace Go.Proofs.Ytkpflhlalpkgnaa
open Go.RowKit Go.Lib Go.Maps
set_option linter.unusedVariables false

/-- A pair as a time with an id. -/
def kq (q : Nat → Pr) (i : Nat) : Ky := ((q i).a, (q i).b)
theorem wf64 {x : Int} (h : 0 ≤ x ∧ x ≤ 255) : (Lit.int .i64 x).wf = true := WalkArith.wf_i64 (by omega)
theorem due_all {t : Int} {L : List Ky} (h : ∀ x, x ∈ L → x.1 ≤ t) : due t L = L ∧ late t L = [] := by
  have := take_split (p := fun x => decide (x.1 ≤ t)) (D := L) (R := []) (fun x hx => by simpa using h x hx) (fun x r e => by cases e)
  rw [List.append_nil] at this
  exact this
theorem Row.sl {w : World} {base : Nat} {e : TypeId} {size : Nat} {v : Value} {n : Nat} {f : Nat → Value} (h : Row w base e size v n f) : ∃ a cap, v = .slice a n cap ∧ (0 < n → ∃ g, a = some ⟨g, 0, none⟩) := by
  rcases h.shape with ⟨rfl, rfl⟩ | ⟨g, cap, rfl, _⟩
  · exact ⟨none, 0, rfl, fun h => by omega⟩
  · exact ⟨_, cap, rfl, fun _ => ⟨g, rfl⟩⟩
/-- The pairs that came in, cell by cell. -/
def PrsIn (w : World) (b0 o0 n : Nat) (q : Nat → Pr) : Prop := ∀ i, i < n → w.cell? ⟨b0, o0 + i * 2, none⟩ = some (.int .u8 (q i).a) ∧ w.cell? ⟨b0, o0 + i * 2 + 1, none⟩ = some (.int .u8 (q i).b)

def PrsAt (w : World) (a : Option Addr) (n : Nat) (q : Nat → Pr) : Prop := 0 < n → ∃ b0 o0, a = some ⟨b0, o0, none⟩ ∧ b0 < w.heap.size ∧ PrsIn w b0 o0 n q
theorem prsAt_of {w : World} {a : Option Addr} {n : Nat} (h : ElemsIn w 2 prCells a n) : ∃ q, PrsAt w a n q := by
  rcases h with e | ⟨b, off, q, rfl, hb, hc⟩
  · exact ⟨fun _ => default, fun h => by omega⟩
  · exact ⟨q, fun _ => ⟨b, off, rfl, hb, fun i hi => ⟨by simpa [prCells] using hc i hi 0 (by omega), by simpa [prCells] using hc i hi 1 (by omega)⟩⟩⟩

set_option maxRecDepth 100000 in
set_option maxHeartbeats 2000000 in
theorem drops_big (a : Option Addr) (n c0 : Nat) (id : Int) (w : World) (h : 100 < n) : Calls Try.prog 6 #[.slice a n c0, .int .u8 id] w fun e w' => e = .returned (.bool true) ∧ Below w.heap.size w w' := by
  have CA := Lib.hid (awake_true w)
  have d1 : (n : Int) > 100 := by omega
  go_enter Try.func6, Try.ntmps6
  go_wp2_with fail
  refine CA.out.mono ?_
  rintro e w1 ⟨rfl, B1⟩
  have BB := Lib.hid B1
  clear CA B1
  go_wp2
  go_ret
  exact ⟨rfl, BB.out⟩

set_option maxRecDepth 100000 in
set_option maxHeartbeats 4000000 in
theorem drops_walk (a : Option Addr) (n c0 : Nat) (q : Nat → Pr) (id : Int) (hid : 0 ≤ id ∧ id ≤ 255) (w : World) (hn : n ≤ 100) (hq : PrsAt w a n q) :
    Calls Try.prog 6 #[.slice a n c0, .int .u8 id] w fun e w' => e = .returned (.bool true) ∧ Below w.heap.size w w' := by
  have CA := Lib.hid (awake_true w)
  have HQ := Lib.hid hq
  have hnz : ¬ (n : Int) > 100 := by omega
  have wid : IntKind.i64.wrap id = id := by rw [IntKind.wrap_i64]; omega
  clear hq
  go_enter Try.func6, Try.ntmps6
  go_wp2_with fail
  refine CA.out.mono ?_
  rintro e w1 ⟨rfl, b1⟩
  have CN := Lib.hid (two_new b1)
  clear CA b1
  go_wp2_with fail
  refine CN.out.mono ?_
  rintro e w2 ⟨rfl, N2⟩
  have CN2 := Lib.hid N2
  clear CN N2
  generalize w1.heap.size = pa at *
  go_wp2_with fail
  refine CN2.out.mono ?_
  rintro e w3 ⟨rfl, t3⟩
  have T3 := Lib.hid t3
  clear CN2 t3
  generalize w2.heap.size = pb at *
  go_wp2_with fail
  go_loopg [7, 8] n (fun kx s7 s8 wr => ∃ i k cb : Nat, s8 = .int .i64 i ∧ s7 = .int .i64 k ∧ i ≤ n ∧ n - i ≤ kx ∧ cb ≤ i ∧ Aside (TwoS w pa i (allIn (kq q) i) pb cb (rest id (allIn (kq q) i)) wr) ∧ k + (rest id (allIn (kq q) i)).length = i)
  case atStart => exact ⟨0, 0, 0, rfl, rfl, by omega, by omega, by omega, T3.out, rfl⟩
  case round =>
    clear T3
    obtain ⟨i, k, cb, rfl, rfl, hi, hk, hcb, T, hcnt⟩ := hrel
    by_cases hlt : i < n
    · have hltz : (i : Int) < (n : Int) := by omega
      obtain ⟨b0, o0, rfl, hb0, hq⟩ := HQ.out (by omega)
      obtain ⟨qa, qb⟩ := hq i hlt
      have ha := (q i).ha
      have hb := (q i).hb
      have BC : Hid (∀ W : World, Below w.heap.size w W → W.cell? ⟨b0, o0 + i * 2, none⟩ = some (.int .u8 (q i).a) ∧ W.cell? ⟨b0, o0 + i * 2 + 1, none⟩ = some (.int .u8 (q i).b)) := fun W bw => ⟨(bw.cell (p := ⟨b0, o0 + i * 2, none⟩) hb0).trans qa, (bw.cell (p := ⟨b0, o0 + i * 2 + 1, none⟩) hb0).trans qb⟩
      have kc := BC.out wr.drew (T.out.gr (Ke.refl _ _).drew).below
      have PA : Hid (∀ x y : Int, x = (q i).a → y = (q i).b → Calls Try.prog 9 #[.pointer (some ⟨pa, 0, none⟩), .int .i64 x, .int .i64 y] wr.drew fun e w' => e = .returned (.tuple #[]) ∧ TwoS w pa (i + 1) (allIn (kq q) (i + 1)) pb cb (rest id (allIn (kq q) i)) w') := fun x y hx hy => by
        subst hx hy
        exact two_put_a (T.out.gr (Ke.refl _ _).drew) (by omega) _ _ (wf64 (q i).hb)
      have HK : Hid (kq q i = ((q i).a, (q i).b)) := rfl
      generalize (q i).a = xa at *
      generalize (q i).b = xb at *
      have wa : IntKind.i64.wrap xa = xa := by rw [IntKind.wrap_i64]; omega
      have wb : IntKind.i64.wrap xb = xb := by rw [IntKind.wrap_i64]; omega
      clear qa qb hq
      go_upto_region 12 with fail
      go_region_held3 (fun w' => w'.cell? ⟨b0, o0 + i * 2, none⟩ = some (.int .u8 xa) ∧ w'.cell? ⟨b0, o0 + i * 2 + 1, none⟩ = some (.int .u8 xb))
        (with_reducible first | exact kc | exact kd)
        (first | (go_at_call 9; refine (PA.out _ _ (by first | rfl | exact wa) (by first | rfl | exact wb)).mono ?_; rintro e w4 ⟨rfl, t4⟩; have kd := BC.out _ t4.below; have T4 := Lib.hid t4; clear t4))
      obtain ⟨kd1, kd2⟩ := kd
      clear kc PA
      by_cases hx : xb = id
      · have hxd : (xb == id) = true := by simp [hx]
        have HX := Lib.hid hx
        clear hx
        go_wp2_with fail
        go_roundg (n - (i + 1))
        case measure => omega
        case rel =>
          have e1 : rest id (allIn (kq q) (i + 1)) = rest id (allIn (kq q) i) := rest_ins_same _ (by rw [HK.out]; exact HX.out) (allIn_srt _ _)
          exact ⟨i + 1, k + 1, cb, by go_num, by go_num, by omega, Nat.le_refl _, by omega, by rw [e1]; exact T4.out, by rw [e1]; omega⟩
      · have hxd : (xb == id) = false := by simp [hx]
        have HX := Lib.hid hx
        clear hx
        have kc := BC.out w4.drew (T4.out.gr (Ke.refl _ _).drew).below
        have PB : Hid (∀ x y : Int, x = xa → y = xb → Calls Try.prog 9 #[.pointer (some ⟨pb, 0, none⟩), .int .i64 x, .int .i64 y] w4.drew fun e w' => e = .returned (.tuple #[]) ∧ TwoS w pa (i + 1) (allIn (kq q) (i + 1)) pb (cb + 1) (ins (xa, xb) (rest id (allIn (kq q) i))) w') := fun x y hx hy => by
          subst hx hy
          exact two_put_b (T4.out.gr (Ke.refl _ _).drew) (by omega) _ _ (wf64 hb)
        go_upto_region 15 with fail
        clear kd1 kd2
        go_region_held3 (fun w' => w'.cell? ⟨b0, o0 + i * 2, none⟩ = some (.int .u8 xa) ∧ w'.cell? ⟨b0, o0 + i * 2 + 1, none⟩ = some (.int .u8 xb))
          (with_reducible first | exact kc | exact ke)
          (first | (go_at_call 9; refine (PB.out _ _ (by first | rfl | exact wa) (by first | rfl | exact wb)).mono ?_; rintro e w5 ⟨rfl, t5⟩; have ke := BC.out _ t5.below; have T5 := Lib.hid t5; clear t5))
        go_wp2_with fail
        go_roundg (n - (i + 1))
        case measure => omega
        case rel =>
          have e1 : rest id (allIn (kq q) (i + 1)) = ins (xa, xb) (rest id (allIn (kq q) i)) := by
            have := rest_ins_other (kq q i) (i := id) (by rw [HK.out]; exact HX.out) (allIn_srt (kq q) i)
            rw [show allIn (kq q) (i + 1) = ins (kq q i) (allIn (kq q) i) from rfl, this, HK.out]
          exact ⟨i + 1, k, cb + 1, by go_num, rfl, by omega, Nat.le_refl _, by omega, by rw [e1]; exact T5.out, by rw [e1, ins_len]; omega⟩
    · have hltz : ¬ (i : Int) < (n : Int) := by omega
      obtain rfl : n = i := by omega
      obtain ⟨A, hA⟩ : ∃ A, A = allIn (kq q) n := ⟨_, rfl⟩
      have hAl : A.length = n := by rw [hA]; exact allIn_len _ _
      have hA5 : ∀ x, x ∈ A → x.1 ≤ 300 := fun x hx => by
        rw [hA] at hx
        obtain ⟨j, _, rfl⟩ := allIn_mem _ _ _ hx
        have := (q j).ha
        show (q j).a ≤ 300
        omega
      rw [← hA] at T hcnt
      obtain ⟨R, hR⟩ : ∃ R, R = rest id A := ⟨_, rfl⟩
      have hRR : rest id R = R := by rw [hR]; exact rest_rest _ _
      have hRl : R.length ≤ n := by rw [hR, ← hAl]; exact rest_le _ _
      have hR5 : ∀ x, x ∈ R → x.1 ≤ 300 := fun x hx => by rw [hR] at hx; exact hA5 x (List.mem_filter.1 hx).1
      rw [← hR] at T hcnt
      have D1 := two_drop_a T.out (by omega) (by omega) id (wf64 hid)
      rw [← hR, show A.length - R.length = k by omega] at D1
      have C1 := Lib.hid D1
      have DA := Lib.hid (due_all hR5)
      have HRR := Lib.hid hRR
      clear D1 hA hA5 hR5 HQ hR hRR
      obtain ⟨m, hm⟩ : ∃ m, R.length = m := ⟨_, rfl⟩
      go_wp2_with fail
      refine C1.out.mono ?_
      rintro e w4 ⟨rfl, t4⟩
      have D2 := two_drop_a t4 (by omega) (by omega) id (wf64 hid)
      rw [HRR.out, Nat.sub_self] at D2
      have C2 := Lib.hid D2
      clear D2 C1 t4
      go_wp2_with fail
      refine C2.out.mono ?_
      rintro e w5 ⟨rfl, t5⟩
      have L1 := two_len_a t5
      have L2 := two_len_b t5
      rw [hm] at L1 L2
      have C3 := Lib.hid L1
      have C4 := Lib.hid L2
      have T5 := Lib.hid t5
      clear L1 L2 C2 t5 T
      go_wp2_with fail
      refine C3.out.mono ?_
      rintro e w6 ⟨rfl, hw⟩
      obtain rfl := hw.symm
      clear hw C3
      go_wp2_with fail
      refine C4.out.mono ?_
      rintro e w6 ⟨rfl, hw⟩
      obtain rfl := hw.symm
      clear hw C4
      have C5 := Lib.hid (two_due_a T5.out (by omega) 300)
      clear T5
      go_wp2_with fail
      refine C5.out.mono ?_
      rintro e w7 ⟨v, rfl, t7⟩
      rw [DA.out.1, DA.out.2] at t7
      have C6 := Lib.hid (two_due_b t7 (by omega) 300)
      clear C5 t7
      go_wp2_with fail
      refine C6.out.mono ?_
      rintro e w8 ⟨v', rfl, t8, r8⟩
      rw [DA.out.1] at r8
      have r8' := t8.row
      rw [hm] at r8 r8'
      obtain ⟨a1, cap1, rfl, s1⟩ := r8'.sl
      obtain ⟨a2, cap2, rfl, s2⟩ := r8.sl
      obtain ⟨_, _, t8', _⟩ := t8.ex
      have BE := Lib.hid t8'.a.below
      have R1 := Lib.hid r8'
      have R2 := Lib.hid r8
      have S1 := Lib.hid s1
      have S2 := Lib.hid s2
      clear C6 t8 t8' r8 r8' s1 s2 DA HRR
      go_wp2_with fail
      go_loopg [11] m (fun kx s11 wr => ∃ j : Nat, s11 = .int .i64 j ∧ j ≤ m ∧ m - j ≤ kx ∧ Aside (Gr w8 wr))
      case atStart => exact ⟨0, rfl, by omega, by omega, Ke.refl _ _⟩
      case round =>
        obtain ⟨j, rfl, hj, hjk, G⟩ := hrel
        by_cases hlt2 : j < m
        · have hltz2 : (j : Int) < (m : Int) := by omega
          obtain ⟨g1, e1⟩ := S1.out (by omega)
          obtain ⟨g2, e2⟩ := S2.out (by omega)
          subst e1 e2
          have x1 := gcell G.out (R1.out.cell j (by omega))
          have x2 := gcell G.out (R2.out.cell j (by omega))
          unfold idc at x1 x2
          generalize (R.getD j (0, 0)).2 = xv at *
          go_wp2_with fail
          go_region
          all_goals
            go_wp2_with fail
            go_roundg (m - (j + 1))
            case measure => omega
            case rel => exact ⟨j + 1, by go_num, by omega, Nat.le_refl _, G.out.drew⟩
        · have hltz2 : ¬ (j : Int) < (m : Int) := by omega
          go_wp2
          go_ret
          exact ⟨rfl, below_ke BE.out G.out (fun _ q => q.elim)⟩
end Go.Proofs.Ytkpflhlalpkgnaa
