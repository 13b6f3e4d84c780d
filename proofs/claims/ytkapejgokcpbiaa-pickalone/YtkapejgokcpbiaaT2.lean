/- pick: contracts of rank.Of, RankOf, next, Can, Rank (the program's and the document's), of both Mades. -/
import Derived.Test.YtkapejgokcpbiaaT1
import Derived.Test.YtkapejgokcpbiaaC2
import Derived.Test.YtkapejgokcpbiaaP6
namespace Go.Proofs.Ytkapejgokcpbiaa
open Go.RowKit Go.Lib
set_option linter.unusedVariables false
set_option maxRecDepth 100000
set_option maxHeartbeats 2000000

/-! ### ranks -/
theorem of_heavy (e p i r id d b g x y : Int) (w : World) (h : Quan e p i) (hh : p ≤ 2 * e) (hl : e < p) (hd : dl e p i = d) (hb : bt e p i = b) (hg : gp e p i = g) (hx : IntKind.i64.wrap (r + d) = x) (hy : IntKind.i64.wrap (g + r) = y) :
    Calls Try.prog 22 #[.int .i64 e, .int .i64 p, .int .i64 i, .int .i64 r, .int .i64 id] w fun q w' => q = .returned (V ⟨x, b, y, id⟩) ∧ Gr w w' := by
  obtain ⟨d0, d1⟩ := dl_bd h
  obtain ⟨g0, g1⟩ := gp_bd h hl
  have hz : (g != 0) = true := by simp; omega
  have HD := Lib.hid hd
  have HB := Lib.hid hb
  have HG := Lib.hid hg
  clear hd hb hg
  go_enter Try.func22, Try.ntmps22
  go_wp2_with fail
  refine (may_yes _ _ _ _ h).mono ?_
  rintro q w1 ⟨rfl, rfl⟩
  go_wp2_with fail
  refine (deadline_yes _ _ _ _ _ h HD.out).mono ?_
  rintro q w1 ⟨rfl, rfl⟩
  go_wp2_with fail
  refine (bit_yes _ _ _ _ _ h HB.out).mono ?_
  rintro q w1 ⟨rfl, rfl⟩
  go_wp2_with fail
  refine (group_yes _ _ _ _ _ h hh hl HG.out).mono ?_
  rintro q w1 ⟨rfl, rfl⟩
  go_wp2
  exact bodyPost_ret (v := .agg #[.int .i64 x, .int .i64 b, .int .i64 y, .int .i64 id]) (by simp [results, Try.results22, go_sem]) rfl ⟨rfl, ((Ke.refl _ _).alloc _).alloc _⟩
theorem of_flat (e p i r id d b x : Int) (w : World) (h : Quan e p i) (hh : 2 * e < p ∨ e = p) (hd : dl e p i = d) (hb : bt e p i = b) (hx : IntKind.i64.wrap (r + d) = x) :
    Calls Try.prog 22 #[.int .i64 e, .int .i64 p, .int .i64 i, .int .i64 r, .int .i64 id] w fun q w' => q = .returned (V ⟨x, b, 0, id⟩) ∧ Gr w w' := by
  obtain ⟨d0, d1⟩ := dl_bd h
  have HD := Lib.hid hd
  have HB := Lib.hid hb
  have HH := Lib.hid hh
  clear hd hb hh
  go_enter Try.func22, Try.ntmps22
  go_wp2_with fail
  refine (may_yes _ _ _ _ h).mono ?_
  rintro q w1 ⟨rfl, rfl⟩
  go_wp2_with fail
  refine (deadline_yes _ _ _ _ _ h HD.out).mono ?_
  rintro q w1 ⟨rfl, rfl⟩
  go_wp2_with fail
  refine (bit_yes _ _ _ _ _ h HB.out).mono ?_
  rintro q w1 ⟨rfl, rfl⟩
  go_wp2_with fail
  refine (group_no _ _ _ _ (.inr ⟨h, HH.out⟩)).mono ?_
  rintro q w1 ⟨rfl, rfl⟩
  go_wp2
  exact bodyPost_ret (v := .agg #[.int .i64 x, .int .i64 b, .int .i64 0, .int .i64 id]) (by simp [results, Try.results22, go_sem]) rfl ⟨rfl, ((Ke.refl _ _).alloc _).alloc _⟩
theorem of_no (e p i r id : Int) (w : World) (h : ¬ Quan e p i) :
    Calls Try.prog 22 #[.int .i64 e, .int .i64 p, .int .i64 i, .int .i64 r, .int .i64 id] w fun q w' => q = .returned (V ⟨0, 0, 0, id⟩) ∧ Gr w w' := by
  go_enter Try.func22, Try.ntmps22
  go_wp2_with fail
  refine (may_no _ _ _ _ h).mono ?_
  rintro q w1 ⟨rfl, rfl⟩
  go_wp2
  exact bodyPost_ret (v := .agg #[.int .i64 0, .int .i64 0, .int .i64 0, .int .i64 id]) (by simp [results, Try.results22, go_sem]) rfl ⟨rfl, (Ke.refl _ _).alloc _⟩
theorem of_any (e p i r id : Int) (w : World) : Calls Try.prog 22 #[.int .i64 e, .int .i64 p, .int .i64 i, .int .i64 r, .int .i64 id] w fun q w' => q = .returned (V (rkV e p i r id)) ∧ Gr w w' := by
  unfold rkV
  cases hq : quB e p i
  · exact of_no _ _ _ _ _ w (quB_no hq)
  · have h := quB_iff.1 hq
    by_cases hh : 2 * e < p ∨ e = p
    · rw [if_pos rfl, if_pos hh]
      exact of_flat _ _ _ _ _ _ _ _ w h hh rfl rfl rfl
    · rw [if_pos rfl, if_neg hh]
      exact of_heavy _ _ _ _ _ _ _ _ _ _ w h (by omega) (by have := h.ep; omega) rfl rfl rfl rfl rfl
theorem rankOf_heavy (e p i r id d b g x y : Int) (w : World) (h : Quan e p i) (hh : p ≤ 2 * e) (hl : e < p) (hd : dl e p i = d) (hb : bt e p i = b) (hg : gp e p i = g) (hx : IntKind.i64.wrap (d + r) = x) (hy : IntKind.i64.wrap (g + r) = y) :
    Calls Try.prog 23 #[.int .i64 e, .int .i64 p, .int .i64 i, .int .i64 r, .int .i64 id] w fun q w' => q = .returned (V ⟨x, b, y, id⟩) ∧ Gr w w' := by
  have c := window_heavy e p i
  obtain ⟨d0, d1⟩ := dl_bd h
  obtain ⟨g0, g1⟩ := gp_bd h hl
  rw [hd] at d0 d1 g0
  rw [hg] at g0 g1
  have hz1 : (d == 0) = false := by simp; omega
  have hz : decide (g > 0) = true := by simp; omega
  have hz2 : 0 < g := by omega
  rw [hd, hb, hg] at c
  have C := Lib.hid c
  clear c hd hb hg
  go_enter Try.func23, Try.ntmps23
  go_wp2_with fail
  refine (C.out _ h hh hl).mono ?_
  rintro q w1 ⟨rfl, j, rfl⟩
  unfold Four
  go_wp2
  refine bodyPost_ret (v := .agg #[.int .i64 x, .int .i64 b, .int .i64 y, .int .i64 id]) (by simp [results, Try.results23, go_sem]) rfl ⟨rfl, ?_⟩
  have g0 : Gr w ((w.alloc (.cells #[.int .i64 0, .int .i64 0, .int .i64 0, .int .i64 0] 35)).drewN j) := by
    have := (Ke.refl (fun _ => False) w).alloc (.cells #[.int .i64 0, .int .i64 0, .int .i64 0, .int .i64 0] 35)
    exact ⟨this.os, this.tape, this.output, this.size, this.block⟩
  repeat (first | exact g0 | with_reducible refine Ke.set ?_ (.inr (by simp)) _)
theorem rankOf_flat (e p i r id d b x : Int) (w : World) (h : Quan e p i) (hh : 2 * e < p ∨ e = p) (hd : dl e p i = d) (hb : bt e p i = b) (hx : IntKind.i64.wrap (d + r) = x) :
    Calls Try.prog 23 #[.int .i64 e, .int .i64 p, .int .i64 i, .int .i64 r, .int .i64 id] w fun q w' => q = .returned (V ⟨x, b, 0, id⟩) ∧ Gr w w' := by
  have c := window_flat e p i
  obtain ⟨d0, d1⟩ := dl_bd h
  rw [hd] at d0 d1
  have hz1 : (d == 0) = false := by simp; omega
  have hhh : 2 * e < p ∨ (p ≤ 2 * e ∧ e = p) := by have := h.e1; omega
  have HHH := Lib.hid hhh
  rw [hd, hb] at c
  have C := Lib.hid c
  clear c hd hb hhh hh
  go_enter Try.func23, Try.ntmps23
  go_wp2_with fail
  refine (C.out _ h HHH.out).mono ?_
  rintro q w1 ⟨rfl, rfl⟩
  unfold Four
  go_wp2
  exact bodyPost_ret (v := .agg #[.int .i64 x, .int .i64 b, .int .i64 0, .int .i64 id]) (by simp [results, Try.results23, go_sem]) rfl ⟨rfl, (Ke.refl _ _).alloc _⟩
theorem rankOf_no (e p i r id : Int) (w : World) (h : ¬ Quan e p i) :
    Calls Try.prog 23 #[.int .i64 e, .int .i64 p, .int .i64 i, .int .i64 r, .int .i64 id] w fun q w' => q = .returned (V ⟨0, 0, 0, id⟩) ∧ Gr w w' := by
  go_enter Try.func23, Try.ntmps23
  go_wp2_with fail
  refine (window_no _ _ _ _ h).mono ?_
  rintro q w1 ⟨rfl, rfl⟩
  unfold Four
  go_wp2
  exact bodyPost_ret (v := .agg #[.int .i64 0, .int .i64 0, .int .i64 0, .int .i64 id]) (by simp [results, Try.results23, go_sem]) rfl ⟨rfl, (Ke.refl _ _).alloc _⟩
theorem rankOf_any (e p i r id : Int) (w : World) : Calls Try.prog 23 #[.int .i64 e, .int .i64 p, .int .i64 i, .int .i64 r, .int .i64 id] w fun q w' => q = .returned (V (rkV e p i r id)) ∧ Gr w w' := by
  unfold rkV
  cases hq : quB e p i
  · exact rankOf_no _ _ _ _ _ w (quB_no hq)
  · have h := quB_iff.1 hq
    by_cases hh : 2 * e < p ∨ e = p
    · rw [if_pos rfl, if_pos hh]
      exact rankOf_flat _ _ _ _ _ _ _ _ w h hh rfl rfl (by rw [Int.add_comm])
    · rw [if_pos rfl, if_neg hh]
      exact rankOf_heavy _ _ _ _ _ _ _ _ _ _ w h (by omega) (by have := h.ep; omega) rfl rfl rfl (by rw [Int.add_comm]) rfl
/-- The document's window's begin. -/
theorem win_any (e p i : Int) (w : World) (h : Quan e p i) : Calls Try.prog 19 #[.int .i64 e, .int .i64 p, .int .i64 i] w fun x w' => (∃ a b c, x = .returned (.tuple #[.int .i64 (rel e p i), .int .i64 a, .int .i64 b, .int .i64 c])) ∧ Gr w w' := by
  by_cases hh : 2 * e < p ∨ (p ≤ 2 * e ∧ e = p)
  · refine (window_flat e p i w h hh).mono ?_
    rintro x w' ⟨rfl, rfl⟩
    exact ⟨⟨_, _, _, rfl⟩, Ke.refl _ _⟩
  · refine (window_heavy e p i w h (by omega) (by have := h.ep; omega)).mono ?_
    rintro x w' ⟨rfl, j, rfl⟩
    have := Ke.refl (fun _ => False) w
    exact ⟨⟨_, _, _, rfl⟩, ⟨this.os, this.tape, this.output, this.size, this.block⟩⟩

/-! ### tasks -/
abbrev VT (x : Tk) : Value := .agg #[.int .i64 x.id, .int .i64 x.e, .int .i64 x.p, .bool x.sp, .bool x.le, .bool x.wa, .bool x.ac, .int .i64 x.r, .int .i64 x.g, .bool x.dn, .int .i64 x.ct]
theorem made12 (x : Tk) (w : World) : Calls Try.prog 9 #[VT x] w fun e w' => e = .returned (VT x) ∧ Gr w w' := by
  obtain ⟨a, b, c, d, e, f, g, h, i, j, k⟩ := x
  go_enter Try.func9, Try.ntmps9
  go_wp2
  exact bodyPost_ret (v := VT ⟨a, b, c, d, e, f, g, h, i, j, k⟩) (by simp [results, Try.results9, go_sem]) rfl ⟨rfl, ((Ke.refl _ _).alloc _).alloc _⟩
/-- A number that may be added one to. -/
def Low1 (g : Int) : Prop := -9223372036854775808 ≤ g ∧ g < 9223372036854775807
theorem next_any (x : Tk) (w : World) (hg : Low1 x.g) : Calls Try.prog 20 #[VT x] w fun e w' => e = .returned (.int .i64 (nxt x)) ∧ Gr w w' := by
  obtain ⟨a, e, p, sp, le, wa, ac, r, g, dn, ct⟩ := x
  obtain ⟨g0, g1⟩ := hg
  simp only at g0 g1
  unfold nxt
  simp only
  cases ac
  · simp only [Bool.false_and]
    go_enter Try.func20, Try.ntmps20
    go_wp2
    go_ret
    exact ⟨rfl, (Ke.refl _ _).alloc _⟩
  · simp only [Bool.true_and]
    cases hq : quB e p (g + 1)
    · have C := Lib.hid (may_no e p (g + 1) · (quB_no hq))
      clear hq
      go_enter Try.func20, Try.ntmps20
      go_wp2_with fail
      refine (C.out _).mono ?_
      rintro q w1 ⟨rfl, rfl⟩
      go_wp2
      go_ret
      exact ⟨rfl, (Ke.refl _ _).alloc _⟩
    · have C := Lib.hid (may_yes e p (g + 1) · (quB_iff.1 hq))
      clear hq
      go_enter Try.func20, Try.ntmps20
      go_wp2_with fail
      refine (C.out _).mono ?_
      rintro q w1 ⟨rfl, rfl⟩
      go_wp2
      go_ret
      exact ⟨rfl, (Ke.refl _ _).alloc _⟩
end Go.Proofs.Ytkapejgokcpbiaa
