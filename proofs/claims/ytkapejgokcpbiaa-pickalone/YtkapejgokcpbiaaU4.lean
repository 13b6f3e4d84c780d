/- The law PickKnown walked. -/
import Derived.Test.YtkapejgokcpbiaaU3
namespace Go.Proofs.Ytkapejgokcpbiaa
open Go.RowKit Go.Lib
set_option linter.unusedVariables false
set_option maxRecDepth 100000
set_option maxHeartbeats 2000000

theorem IdsP.nil {w w' : World} {l : List Int} {e : Ending} (h : IdsP w l e w') (hl : l = []) : ∃ a c, e = .returned (.slice a 0 c) ∧ Gr w w' := by
  subst hl
  obtain ⟨u, rfl, row, g⟩ := h
  obtain ⟨xa, ca, rfl⟩ := rowI_form row
  exact ⟨xa, ca, rfl, g⟩
theorem IdsP.two {w w' : World} {l : List Int} {e : Ending} {x y : Int} (h : IdsP w l e w') (hl : l = [x, y]) : ∃ g cap, e = .returned (.slice (some ⟨g, 0, none⟩) 2 cap) ∧ w'.cell? ⟨g, 0, none⟩ = some (.int .i64 x) ∧ w'.cell? ⟨g, 1, none⟩ = some (.int .i64 y) ∧ Gr w w' := by
  subst hl
  obtain ⟨u, rfl, row, g⟩ := h
  obtain ⟨b, cap, rfl, _⟩ := Row.form row (by simp)
  exact ⟨b, cap, rfl, Row.cell row 0 (by simp), Row.cell row 1 (by simp), g⟩
theorem row_gr {w w' : World} {b0 : Nat} {v : Value} {n : Nat} {f : Nat → Value} (h : Row w b0 27 11 v n f) (g : Gr w w') : Row w' b0 27 11 v n f := Row.keep h (fun j hj => g.block j (Row.lt h hj).2 (fun q => q))
/-- The first of a row of tasks. -/
theorem row_head {w : World} {b0 g cap n : Nat} {l : Nat → Tk} (h : Row w b0 27 11 (.slice (some ⟨g, 0, none⟩) n cap) n (tc l)) (hn : 0 < n) : TkAt w g 0 (l 0) := TkAt.of (fun j hj => (Row.cell h (0 + j) (by omega)).trans (by rw [show 0 + j = 0 * 11 + j by omega, tc_at _ _ _ hj]))

abbrev k1 : Tk := ⟨1, 2, 6, false, false, false, true, 0, 1, false, 0⟩
abbrev k2 : Tk := ⟨2, 1, 9, false, false, false, true, 0, 0, false, 0⟩
abbrev k3 : Tk := ⟨2, 1, 1, false, false, false, true, 0, 0, false, 0⟩
abbrev k4 : Tk := ⟨3, 1, 1, false, false, false, true, 0, 1, false, 0⟩
abbrev k5 : Tk := ⟨4, 1, 1, false, false, false, false, 0, 0, false, 0⟩
abbrev kL : List Tk := [k1, k2, k3, k4, k5]
theorem field32 (a b c d : Int) (w : World) : (Instr.field 32 (V ⟨a, b, c, d⟩) 0).run Try.prog w = .ok (.int .i64 a) w := by kernel_rfl
theorem known_walk (w : World) : Calls Try.prog 5 #[] w fun e w' => e = .returned (.bool true) ∧ Gr w w' := by
  have AW := Lib.hid (awake_true w)
  go_enter Try.func5, Try.ntmps5
  go_wp2_with fail
  refine AW.out.mono ?_
  rintro e w0 ⟨rfl, g0⟩
  have G0 := Lib.hid g0
  clear g0 AW
  go_wp2_with fail
  refine (rows_any (ts_lit w0 kL _ rfl 5 rfl) (by omega)).mono ?_
  rintro e w2 ⟨u, rfl, row, g2⟩
  have G2 := Lib.hid ((G0.out.alloc _).trans g2)
  obtain ⟨g, cap, rfl, _⟩ := Row.form row (by omega)
  have C2 := Lib.hid (best_nth row rfl (by omega) (by decide) 2 ⟨by omega, by omega⟩ 9 false [2] (by decide))
  have R2 := Lib.hid row
  clear row g2 G0
  go_wp2_with fail
  refine C2.out.mono ?_
  intro e w3 q
  obtain ⟨ga, ca, rfl, a0, g3⟩ := q.one rfl
  have G3 := Lib.hid (G2.out.trans g3)
  have R3 := Lib.hid (row_gr R2.out g3)
  have C3 := Lib.hid (best_nth R3.out rfl (by omega) (by decide) 2 ⟨by omega, by omega⟩ 9 true [1, 2] (by decide))
  clear q g3 C2 R2 G2
  go_wp2_with fail
  refine C3.out.mono ?_
  intro e w4 q
  obtain ⟨gb, cb, rfl, b0, b1, g4⟩ := q.two rfl
  replace a0 := gcell g4 a0
  have G4 := Lib.hid (G3.out.trans g4)
  have R4 := Lib.hid (row_gr R3.out g4)
  have C4 := Lib.hid (best_nth R4.out rfl (by omega) (by decide) 2 ⟨by omega, by omega⟩ 0 true [] (by decide))
  clear q g4 C3 R3 G3
  go_wp2_with fail
  refine C4.out.mono ?_
  intro e w5 q
  obtain ⟨x5, y5, rfl, g5⟩ := q.nil rfl
  have G5 := Lib.hid (G4.out.trans g5)
  have R5 := Lib.hid (row_gr R4.out g5)
  have C5 := Lib.hid (best_nth R5.out rfl (by omega) (by decide) 2 ⟨by omega, by omega⟩ (-4) true [] (by decide))
  clear q g5 C4 R4 G4 a0 b0 b1
  go_wp2_with fail
  refine C5.out.mono ?_
  intro e w6 q
  obtain ⟨x6, y6, rfl, g6⟩ := q.nil rfl
  have G6 := Lib.hid (G5.out.trans g6)
  have R6 := Lib.hid (row_gr R5.out g6)
  have C6 := Lib.hid (best_nth (w := w6) (b0 := 0) (v := .slice none 0 0) (ts := []) (n := 0) (World.ownsRow_nil _ _ _ _) rfl (by omega) (by decide) 2 ⟨by omega, by omega⟩ 4 true [] (by decide))
  clear q g6 C5 R5 G5
  go_wp2_with fail
  refine C6.out.mono ?_
  intro e w7 q
  obtain ⟨x7, y7, rfl, g7⟩ := q.nil rfl
  have G7 := Lib.hid (G6.out.trans g7)
  have R7 := row_head (row_gr R6.out g7) (by omega)
  have H7 := Lib.hid R7
  obtain ⟨q0, q1, q2, q3, q4, q5, q6, q7, q8, q9, q10⟩ := R7
  have CA := Lib.hid (can_any k1 3 false w7 ⟨⟨by decide, by decide⟩, by decide, by decide⟩ ⟨by omega, by omega⟩)
  rw [show canB k1 3 false = true by decide] at CA
  simp only [Nat.zero_add, nth, List.getD_cons_zero] at q0 q1 q2 q3 q4 q5 q6 q7 q8 q9 q10
  clear q g7 C6 R6 G6
  go_wp2_with fail
  refine CA.out.mono ?_
  rintro e w8 ⟨rfl, g8⟩
  have G8 := Lib.hid (G7.out.trans g8)
  have H8 := Lib.hid (H7.out.gr g8)
  clear q0 q1 q2 q3 q4 q5 q6 q7 q8 q9 q10 g8 G7 H7 CA
  obtain ⟨q0, q1, q2, q3, q4, q5, q6, q7, q8, q9, q10⟩ := H8.out
  have CA := Lib.hid (can_any k1 2 false w8 ⟨⟨by decide, by decide⟩, by decide, by decide⟩ ⟨by omega, by omega⟩)
  rw [show canB k1 2 false = false by decide] at CA
  simp only [Nat.zero_add, nth, List.getD_cons_zero] at q0 q1 q2 q3 q4 q5 q6 q7 q8 q9 q10
  go_wp2_with fail
  refine CA.out.mono ?_
  rintro e w9 ⟨rfl, g9⟩
  have G9 := Lib.hid (G8.out.trans g9)
  have H9 := Lib.hid (H8.out.gr g9)
  clear q0 q1 q2 q3 q4 q5 q6 q7 q8 q9 q10 g9 G8 H8 CA
  obtain ⟨q0, q1, q2, q3, q4, q5, q6, q7, q8, q9, q10⟩ := H9.out
  have CA := Lib.hid (rank_any k1 w9 ⟨by decide, by decide⟩)
  rw [show rkT k1 = ⟨6, 0, 0, 1⟩ by decide] at CA
  simp only [Nat.zero_add, nth, List.getD_cons_zero] at q0 q1 q2 q3 q4 q5 q6 q7 q8 q9 q10
  go_wp2_with fail
  refine CA.out.mono ?_
  rintro e w10 ⟨rfl, g10⟩
  have G10 := Lib.hid (G9.out.trans g10)
  have hf := field32 6 0 0 1 w10
  clear q0 q1 q2 q3 q4 q5 q6 q7 q8 q9 q10 g10 G9 H9 CA
  go_wp2
  go_ret
  exact ⟨rfl, G10.out⟩
end Go.Proofs.Ytkapejgokcpbiaa
