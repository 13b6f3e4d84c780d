/- pick: slices of tasks written out; the law's first sentence (awake). -/
import Derived.Test.YtkapejgokcpbiaaU2
namespace Go.Proofs.Ytkapejgokcpbiaa
open Go.RowKit Go.Lib
set_option linter.unusedVariables false
set_option maxRecDepth 100000
set_option maxHeartbeats 2000000

/-- The i-th of a list. -/
abbrev nth (ts : List Tk) (i : Nat) : Tk := ts.getD i default
theorem tc_list (ts : List Tk) : (List.range (ts.length * 11)).map (tc (nth ts)) = ts.flatMap tkCells := by
  induction ts with
  | nil => rfl
  | cons d A ih =>
    rw [List.length_cons, show (A.length + 1) * 11 = 11 + A.length * 11 by omega, List.range_add, List.map_append, List.flatMap_cons, ← ih]
    congr 1
    rw [List.map_map]
    refine List.map_congr_left (fun j hj => ?_)
    simp only [Function.comp, tc]
    rw [show (11 + j) / 11 = j / 11 + 1 by omega, show (11 + j) % 11 = j % 11 by omega]
    rfl
theorem ts_lit (w : World) (ts : List Tk) (cs : Array Value) (h : cs = (ts.flatMap tkCells).toArray) (n : Nat) (hn : n = ts.length) : TsIn (w.alloc (.cells cs 26)) (.slice (some ⟨w.heap.size, 0, none⟩) n n) n (nth ts) := by
  subst hn
  refine ⟨_, _, rfl, .inr ⟨_, 0, rfl, fun i hi j hj => ?_⟩⟩
  rw [cell_of_row _ _ _ _ _ _ (heap_alloc_new w _), h, ← tc_list]
  simp only [Nat.zero_add, List.getElem?_toArray]
  rw [List.getElem?_eq_getElem (by simp; omega), List.getElem_map, List.getElem_range, tc_at _ _ _ hj]
def smB (x : Tk) : Bool := decide (-9223372036854775808 ≤ x.g) && decide (x.g < 9223372036854775807) && decide (-2000000000000 ≤ x.r) && decide (x.r ≤ 2000000000000) && (Lit.int .i64 x.id).wf
theorem smB_at {ts : List Tk} (h : ts.all smB = true) {i : Nat} (hi : i < ts.length) : SmT (nth ts i) ∧ (Lit.int .i64 (nth ts i).id).wf = true := by
  rw [List.all_eq_true] at h
  have e : nth ts i = ts[i] := by unfold nth; rw [List.getD_eq_getElem?_getD, List.getElem?_eq_getElem hi]; rfl
  have := h _ (List.getElem_mem hi)
  rw [← e] at this
  unfold smB at this
  simp only [Bool.and_eq_true, decide_eq_true_eq] at this
  exact ⟨⟨⟨this.1.1.1.1, this.1.1.1.2⟩, this.1.1.2, this.1.2⟩, this.2⟩
/-- Best of a list. -/
theorem best_nth {w : World} {b0 : Nat} {v : Value} {ts : List Tk} {n : Nat} (row : Row w b0 27 11 v n (tc (nth ts))) (hn : n = ts.length) (hl : n ≤ 65536) (h : ts.all smB = true) (c : Int) (hc : SmC c) (k : Int) (ea : Bool) (l : List Int) (hb : bestI (nth ts) n c k.toNat ea = l) :
    Calls Try.prog 15 #[v, .int .i64 c, .int .i64 k, .bool ea] w fun e w' => IdsP w l e w' := by
  subst hb
  exact best_any row hl (fun i hi => (smB_at h (by omega)).1) (fun i hi => (smB_at h (by omega)).2) c hc k ea
theorem IdsP.one {w w' : World} {l : List Int} {e : Ending} {x : Int} (h : IdsP w l e w') (hl : l = [x]) : ∃ g cap, e = .returned (.slice (some ⟨g, 0, none⟩) 1 cap) ∧ w'.cell? ⟨g, 0, none⟩ = some (.int .i64 x) ∧ Gr w w' := by
  subst hl
  obtain ⟨u, rfl, row, g⟩ := h
  obtain ⟨b, cap, rfl, _⟩ := Row.form row (by simp)
  exact ⟨b, cap, rfl, Row.cell row 0 (by simp), g⟩

abbrev t1 : Tk := ⟨1, 1, 5, false, false, false, true, 0, 0, false, 0⟩
abbrev t2 : Tk := ⟨2, 1, 3, false, false, false, true, 0, 0, false, 0⟩
theorem awake_true (w : World) : Calls Try.prog 8 #[] w fun e w' => e = .returned (.bool true) ∧ Gr w w' := by
  obtain ⟨w1, hw1⟩ : ∃ w1, w1 = w.alloc (.cells #[.int .i64 1, .int .i64 1, .int .i64 5, .bool false, .bool false, .bool false, .bool true, .int .i64 0, .int .i64 0, .bool false, .int .i64 0, .int .i64 2, .int .i64 1, .int .i64 3, .bool false, .bool false, .bool false, .bool true, .int .i64 0, .int .i64 0, .bool false, .int .i64 0] 26) := ⟨_, rfl⟩
  have T1 : Hid (TsIn w1 (.slice (some ⟨w.heap.size, 0, none⟩) 2 2) 2 (nth [t1, t2])) := by rw [hw1]; exact ts_lit w [t1, t2] _ rfl 2 rfl
  have G1 : Hid (Gr w w1) := by rw [hw1]; exact (Ke.refl _ _).alloc _
  have C1 := Lib.hid (rows_any T1.out (by omega))
  go_enter Try.func8, Try.ntmps8
  go_wp2_with fail
  rw [← hw1]
  refine C1.out.mono ?_
  rintro e w2 ⟨u, rfl, row, g2⟩
  have C2 := Lib.hid (best_nth row rfl (by omega) (by decide) 0 ⟨by omega, by omega⟩ 1 false [2] (by decide))
  have T2 := Lib.hid (T1.out.gr g2)
  have G2 := Lib.hid (G1.out.trans g2)
  clear row g2 C1 T1 G1 hw1
  go_wp2_with fail
  refine C2.out.mono ?_
  intro e w3 q
  obtain ⟨g, cap, rfl, c0, g3⟩ := q.one rfl
  have T3 := Lib.hid (T2.out.gr g3)
  have G3 := Lib.hid (G2.out.trans g3)
  clear T2 G2 C2 q g3
  obtain ⟨b, off, ca, hv, at_⟩ := T3.out.at_ (by omega)
  cases hv
  obtain ⟨q0, q1, q2, q3, q4, q5, q6, q7, q8, q9, q10⟩ := at_ 0 (by omega)
  have MD := Lib.hid (fun W => made12 t1 W)
  simp only [Nat.zero_mul, Nat.add_zero, Nat.zero_add, nth, List.getD_cons_zero] at q0 q1 q2 q3 q4 q5 q6 q7 q8 q9 q10
  clear at_
  go_wp2_with fail
  refine (MD.out _).mono ?_
  rintro e w4 ⟨rfl, g4⟩
  have CA := Lib.hid (can_any t1 0 false w4 ⟨⟨by decide, by decide⟩, by decide, by decide⟩ ⟨by omega, by omega⟩)
  rw [show canB t1 0 false = true by decide] at CA
  go_wp2_with fail
  refine CA.out.mono ?_
  rintro e w5 ⟨rfl, g5⟩
  have k5 := g4.trans g5
  replace q0 := gcell k5 q0
  replace q1 := gcell k5 q1
  replace q2 := gcell k5 q2
  replace q3 := gcell k5 q3
  replace q4 := gcell k5 q4
  replace q5 := gcell k5 q5
  replace q6 := gcell k5 q6
  replace q7 := gcell k5 q7
  replace q8 := gcell k5 q8
  replace q9 := gcell k5 q9
  replace q10 := gcell k5 q10
  have G5 := Lib.hid (G3.out.trans k5)
  clear g4 g5 k5 CA c0
  go_wp2_with fail
  refine (MD.out _).mono ?_
  rintro e w6 ⟨rfl, g6⟩
  have CA := Lib.hid (can_any t1 (-1) true w6 ⟨⟨by decide, by decide⟩, by decide, by decide⟩ ⟨by omega, by omega⟩)
  rw [show canB t1 (-1) true = false by decide] at CA
  go_wp2_with fail
  refine CA.out.mono ?_
  rintro e w7 ⟨rfl, g7⟩
  have G7 := Lib.hid (G5.out.trans (g6.trans g7))
  clear g6 g7 CA q0 q1 q2 q3 q4 q5 q6 q7 q8 q9 q10
  go_wp2
  go_ret
  exact ⟨rfl, G7.out⟩
end Go.Proofs.Ytkapejgokcpbiaa
