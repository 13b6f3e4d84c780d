/- The contracts with the numbers laid apart, for a statement that draws its order. -/
import Derived.Test.YtpaiaoaffoeleaaP4
import Derived.BigQuiet
namespace Go.Proofs.Ytpaiaoaffoeleaa
open Go.RowKit Go.Sort
set_option linter.unusedVariables false

theorem made4 (a b c d : Int) (W : World) : Calls Try.prog 11 #[.agg #[.int .i64 a, .int .i64 b, .int .i64 c, .int .i64 d]] W fun e w' => e = .returned (.agg #[.int .i64 a, .int .i64 b, .int .i64 c, .int .i64 d]) ∧ ∃ q os', w' = grow (W.drewN q) os' := made_any ⟨a, b, c, d⟩ W
theorem less4 (a b c d a' b' c' d' : Int) (W : World) : Calls Try.prog 10 #[.agg #[.int .i64 a, .int .i64 b, .int .i64 c, .int .i64 d], .agg #[.int .i64 a', .int .i64 b', .int .i64 c', .int .i64 d']] W fun e w' => e = .returned (.bool (lessB ⟨a, b, c, d⟩ ⟨a', b', c', d'⟩)) ∧ ∃ q os', w' = grow (W.drewN q) os' := less_any ⟨a, b, c, d⟩ ⟨a', b', c', d'⟩ W
theorem rless4 (a b c d a' b' c' d' : Int) (W : World) : Calls Try.prog 12 #[.agg #[.int .i64 a, .int .i64 b, .int .i64 c, .int .i64 d], .agg #[.int .i64 a', .int .i64 b', .int .i64 c', .int .i64 d']] W fun e w' => e = .returned (.bool (lessB ⟨a, b, c, d⟩ ⟨a', b', c', d'⟩)) ∧ ∃ q os', w' = grow (W.drewN q) os' := rless_any ⟨a, b, c, d⟩ ⟨a', b', c', d'⟩ W

/-- A cell, in every world that has grown out of the one at hand. -/
theorem grc {w : World} {a : Addr} {v : Value} (h : w.cell? a = some v) (n : Nat) (os : Array Obj) : (grow (w.drewN n) os).cell? a = some v := cell_grown (lt_of_cell h) h n os

theorem Box.at {W : World} {B B' : Nat} {x : Rk} (h : Box W B x) (e : B = B') : Box W B' x := e ▸ h

/-- Five numbers in a box of their own. -/
structure Five (W : World) (B : Nat) (a b c d e : Int) : Prop where
  c0 : W.cell? ⟨B, 0, none⟩ = some (.int .i64 a)
  c1 : W.cell? ⟨B, 1, none⟩ = some (.int .i64 b)
  c2 : W.cell? ⟨B, 2, none⟩ = some (.int .i64 c)
  c3 : W.cell? ⟨B, 3, none⟩ = some (.int .i64 d)
  c4 : W.cell? ⟨B, 4, none⟩ = some (.int .i64 e)
theorem Five.keep {W W' : World} {B : Nat} {a b c d e : Int} (h : Five W B a b c d e) (g : Gr W W') : Five W' B a b c d e :=
  ⟨gcell4 g h.c0, gcell4 g h.c1, gcell4 g h.c2, gcell4 g h.c3, gcell4 g h.c4⟩
theorem Five.new (W : World) (a b c d e : Int) (t : TypeId) : Five (W.alloc (.cells #[.int .i64 a, .int .i64 b, .int .i64 c, .int .i64 d, .int .i64 e] t)) W.heap.size a b c d e :=
  ⟨by simp, by simp, by simp, by simp, by simp⟩
theorem Five.at {W : World} {B B' : Nat} {a b c d e : Int} (h : Five W B a b c d e) (q : B = B') : Five W B' a b c d e := q ▸ h

set_option maxHeartbeats 1000000 in
theorem made_at (a b c d : Int) (w : World) : Calls Try.prog 11 #[.agg #[.int .i64 a, .int .i64 b, .int .i64 c, .int .i64 d]] w fun e w' => e = .returned (.agg #[.int .i64 a, .int .i64 b, .int .i64 c, .int .i64 d]) ∧ w' = (w.alloc (.cells #[.int .i64 a, .int .i64 b, .int .i64 c, .int .i64 d] 23)).alloc (.cells #[.int .i64 a, .int .i64 b, .int .i64 c, .int .i64 d] 26) := by
  go_enter Try.func11, Try.ntmps11
  go_wp2
  exact bodyPost_ret (v := .agg #[.int .i64 a, .int .i64 b, .int .i64 c, .int .i64 d]) (by simp [results, Try.results11, go_sem]) rfl ⟨rfl, rfl⟩

/-- Three ranks in boxes of their own. -/
def Three (w1 : World) (x y z : Rk) (s7 s8 s9 : Value) (W : World) : Prop :=
  ∃ B7 B8 B9, s7 = .pointer (some ⟨B7, 0, none⟩) ∧ s8 = .pointer (some ⟨B8, 0, none⟩) ∧ s9 = .pointer (some ⟨B9, 0, none⟩) ∧ Box W B7 x ∧ Box W B8 y ∧ Box W B9 z ∧ Gr w1 W

theorem cell_old {W : World} {b o : Nat} {v : Value} (h : W.cell? ⟨b, o, none⟩ = some v) (c : Array Value) (t : TypeId) : (W.alloc (.cells c t)).cell? ⟨b, o, none⟩ = some v := gcell4 ((Gr.refl _).alloc _) h
theorem cell_drew {W : World} {a : Addr} {v : Value} (h : W.cell? a = some v) : W.drew.cell? a = some v := h
theorem cell_drewN {W : World} {a : Addr} {v : Value} (h : W.cell? a = some v) (n : Nat) : (W.drewN n).cell? a = some v := h
theorem cell_set {W : World} {b o c i : Nat} {v : Value} (h : W.cell? ⟨b, o, none⟩ = some v) (hb : b ≠ c) (u : Value) : (W.setCell ⟨c, i, none⟩ u).cell? ⟨b, o, none⟩ = some v := by
  rw [← h]; exact World.cell?_of_block (Below.heap_setCell W ⟨c, i, none⟩ u b hb)

end Go.Proofs.Ytpaiaoaffoeleaa
