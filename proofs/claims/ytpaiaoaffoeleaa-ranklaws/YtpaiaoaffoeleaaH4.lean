/- The invariant of a statement that makes three ranks in an order that Go leaves open. -/
import Derived.Test.YtpaiaoaffoeleaaI4
import Derived.Test.YtpaiaoaffoeleaaO4
import Derived.Test.YtpaiaoaffoeleaaW4
namespace Go.Proofs.Ytpaiaoaffoeleaa
open Go.RowKit Go.Sort
set_option linter.unusedVariables false

/-- The frame while the statement runs. -/
def fr3 (a0 a1 a2 a3 a4 a5 a6 a7 a8 a9 a10 a11 : Int) (A : Nat) (s7 s8 s9 s12 s13 s14 s15 s16 s17 : Value) : Act := { tmps := #[.agg #[.int .i64 a0, .int .i64 a1, .int .i64 a2, .int .i64 a3], .agg #[.int .i64 a4, .int .i64 a5, .int .i64 a6, .int .i64 a7], .agg #[.int .i64 a8, .int .i64 a9, .int .i64 a10, .int .i64 a11], .pointer (some ⟨A, 0, none⟩), .pointer (some ⟨A + 1, 0, none⟩), .pointer (some ⟨A + 2, 0, none⟩), .bool false, s7, s8, s9, .bool true, .bool false, s12, s13, s14, s15, s16, s17, undef, undef, undef, undef, undef, undef, undef, undef, undef, undef, undef, undef, undef, undef, undef, undef, undef, undef, undef, undef, undef, undef, undef, undef, undef, undef, undef, undef, undef, undef, undef, undef, undef, undef, undef, undef, undef, undef, undef, undef, undef, undef, undef, undef, undef, undef, undef, undef, undef, undef, undef, undef, undef, undef, undef, undef, undef, undef, undef, undef, undef, undef, undef, undef, undef, undef, undef, undef, undef, undef, undef, undef, undef], defers := [] }

/-- What of it has come up so far. -/
structure J3 (x y z : Rk) (w1 : World) (L : Nat → Bool) (s7 s8 s9 s12 s13 s14 s15 s16 s17 : Value) (w : World) : Prop where
  gr : Gr w1 w
  l0 : L 0 = true → s12 = V x
  l1 : L 1 = true → s13 = V x
  l2 : L 2 = true → s14 = V y
  l3 : L 3 = true → s15 = V y
  l4 : L 4 = true → s16 = V z
  l5 : L 5 = true → s17 = V z
  bx : ∃ B7 B8 B9 : Nat, (L 6 = true → s7 = .pointer (some ⟨B7, 0, none⟩) ∧ w1.heap.size ≤ B7 ∧ ∃ u, Box w B7 u) ∧ (L 7 = true → s8 = .pointer (some ⟨B8, 0, none⟩) ∧ w1.heap.size ≤ B8 ∧ ∃ u, Box w B8 u) ∧ (L 8 = true → s9 = .pointer (some ⟨B9, 0, none⟩) ∧ w1.heap.size ≤ B9 ∧ ∃ u, Box w B9 u) ∧
    (L 6 = true → L 7 = true → B7 ≠ B8) ∧ (L 6 = true → L 8 = true → B7 ≠ B9) ∧ (L 7 = true → L 8 = true → B8 ≠ B9)

def I3 (a0 a1 a2 a3 a4 a5 a6 a7 a8 a9 a10 a11 : Int) (A : Nat) (w1 : World) (L : Nat → Bool) (a : Act) (w : World) : Prop :=
  ∃ s7 s8 s9 s12 s13 s14 s15 s16 s17, a = fr3 a0 a1 a2 a3 a4 a5 a6 a7 a8 a9 a10 a11 A s7 s8 s9 s12 s13 s14 s15 s16 s17 ∧ J3 ⟨a0, a1, a2, a3⟩ ⟨a4, a5, a6, a7⟩ ⟨a8, a9, a10, a11⟩ w1 L s7 s8 s9 s12 s13 s14 s15 s16 s17 w

theorem J3.grow {x y z : Rk} {w1 : World} {L : Nat → Bool} {s7 s8 s9 s12 s13 s14 s15 s16 s17 : Value} {w w' : World} (h : J3 x y z w1 L s7 s8 s9 s12 s13 s14 s15 s16 s17 w) (g : Gr w w') : J3 x y z w1 L s7 s8 s9 s12 s13 s14 s15 s16 s17 w' := by
  obtain ⟨B7, B8, B9, h6, h7, h8, n1, n2, n3⟩ := h.bx
  refine ⟨h.gr.trans g, h.l0, h.l1, h.l2, h.l3, h.l4, h.l5, B7, B8, B9, fun e => ?_, fun e => ?_, fun e => ?_, n1, n2, n3⟩
  · obtain ⟨q1, q2, u, q3⟩ := h6 e; exact ⟨q1, q2, u, q3.keep g⟩
  · obtain ⟨q1, q2, u, q3⟩ := h7 e; exact ⟨q1, q2, u, q3.keep g⟩
  · obtain ⟨q1, q2, u, q3⟩ := h8 e; exact ⟨q1, q2, u, q3.keep g⟩

theorem J3.mark0 {x y z : Rk} {w1 : World} {L : Nat → Bool} {s7 s8 s9 s12 s13 s14 s15 s16 s17 : Value} {w : World} (h : J3 x y z w1 L s7 s8 s9 s12 s13 s14 s15 s16 s17 w) : J3 x y z w1 (fun j => if j = 0 then true else L j) s7 s8 s9 (V x) s13 s14 s15 s16 s17 w :=
  ⟨h.gr, fun _ => rfl, h.l1, h.l2, h.l3, h.l4, h.l5, h.bx⟩
theorem J3.mark1 {x y z : Rk} {w1 : World} {L : Nat → Bool} {s7 s8 s9 s12 s13 s14 s15 s16 s17 : Value} {w : World} (h : J3 x y z w1 L s7 s8 s9 s12 s13 s14 s15 s16 s17 w) : J3 x y z w1 (fun j => if j = 1 then true else L j) s7 s8 s9 s12 (V x) s14 s15 s16 s17 w :=
  ⟨h.gr, h.l0, fun _ => rfl, h.l2, h.l3, h.l4, h.l5, h.bx⟩
theorem J3.mark2 {x y z : Rk} {w1 : World} {L : Nat → Bool} {s7 s8 s9 s12 s13 s14 s15 s16 s17 : Value} {w : World} (h : J3 x y z w1 L s7 s8 s9 s12 s13 s14 s15 s16 s17 w) : J3 x y z w1 (fun j => if j = 2 then true else L j) s7 s8 s9 s12 s13 (V y) s15 s16 s17 w :=
  ⟨h.gr, h.l0, h.l1, fun _ => rfl, h.l3, h.l4, h.l5, h.bx⟩
theorem J3.mark3 {x y z : Rk} {w1 : World} {L : Nat → Bool} {s7 s8 s9 s12 s13 s14 s15 s16 s17 : Value} {w : World} (h : J3 x y z w1 L s7 s8 s9 s12 s13 s14 s15 s16 s17 w) : J3 x y z w1 (fun j => if j = 3 then true else L j) s7 s8 s9 s12 s13 s14 (V y) s16 s17 w :=
  ⟨h.gr, h.l0, h.l1, h.l2, fun _ => rfl, h.l4, h.l5, h.bx⟩
theorem J3.mark4 {x y z : Rk} {w1 : World} {L : Nat → Bool} {s7 s8 s9 s12 s13 s14 s15 s16 s17 : Value} {w : World} (h : J3 x y z w1 L s7 s8 s9 s12 s13 s14 s15 s16 s17 w) : J3 x y z w1 (fun j => if j = 4 then true else L j) s7 s8 s9 s12 s13 s14 s15 (V z) s17 w :=
  ⟨h.gr, h.l0, h.l1, h.l2, h.l3, fun _ => rfl, h.l5, h.bx⟩
theorem J3.mark5 {x y z : Rk} {w1 : World} {L : Nat → Bool} {s7 s8 s9 s12 s13 s14 s15 s16 s17 : Value} {w : World} (h : J3 x y z w1 L s7 s8 s9 s12 s13 s14 s15 s16 s17 w) : J3 x y z w1 (fun j => if j = 5 then true else L j) s7 s8 s9 s12 s13 s14 s15 s16 (V z) w :=
  ⟨h.gr, h.l0, h.l1, h.l2, h.l3, h.l4, fun _ => rfl, h.bx⟩
theorem J3.mark6 {x y z : Rk} {w1 : World} {L : Nat → Bool} {s7 s8 s9 s12 s13 s14 s15 s16 s17 : Value} {w : World} (h : J3 x y z w1 L s7 s8 s9 s12 s13 s14 s15 s16 s17 w) : J3 x y z w1 (fun j => if j = 6 then true else L j) (.pointer (some ⟨w.heap.size, 0, none⟩)) s8 s9 s12 s13 s14 s15 s16 s17 (w.alloc (.cells #[.int .i64 0, .int .i64 0, .int .i64 0, .int .i64 0] 26)) := by
  obtain ⟨B7, B8, B9, h6, h7, h8, n1, n2, n3⟩ := h.bx
  exact ⟨h.gr.alloc _, h.l0, h.l1, h.l2, h.l3, h.l4, h.l5, w.heap.size, B8, B9, fun _ => ⟨rfl, h.gr.size, ⟨0, 0, 0, 0⟩, Box.new w ⟨0, 0, 0, 0⟩ 26⟩, fun e => (let ⟨q1, q2, u, q3⟩ := h7 e; ⟨q1, q2, u, q3.alloc _⟩), fun e => (let ⟨q1, q2, u, q3⟩ := h8 e; ⟨q1, q2, u, q3.alloc _⟩), fun _ e => (let ⟨_, _, u, q3⟩ := h7 e; (Nat.ne_of_lt q3.lt).symm), fun _ e => (let ⟨_, _, u, q3⟩ := h8 e; (Nat.ne_of_lt q3.lt).symm), n3⟩
theorem J3.mark7 {x y z : Rk} {w1 : World} {L : Nat → Bool} {s7 s8 s9 s12 s13 s14 s15 s16 s17 : Value} {w : World} (h : J3 x y z w1 L s7 s8 s9 s12 s13 s14 s15 s16 s17 w) : J3 x y z w1 (fun j => if j = 7 then true else L j) s7 (.pointer (some ⟨w.heap.size, 0, none⟩)) s9 s12 s13 s14 s15 s16 s17 (w.alloc (.cells #[.int .i64 0, .int .i64 0, .int .i64 0, .int .i64 0] 26)) := by
  obtain ⟨B7, B8, B9, h6, h7, h8, n1, n2, n3⟩ := h.bx
  exact ⟨h.gr.alloc _, h.l0, h.l1, h.l2, h.l3, h.l4, h.l5, B7, w.heap.size, B9, fun e => (let ⟨q1, q2, u, q3⟩ := h6 e; ⟨q1, q2, u, q3.alloc _⟩), fun _ => ⟨rfl, h.gr.size, ⟨0, 0, 0, 0⟩, Box.new w ⟨0, 0, 0, 0⟩ 26⟩, fun e => (let ⟨q1, q2, u, q3⟩ := h8 e; ⟨q1, q2, u, q3.alloc _⟩), fun e _ => (let ⟨_, _, u, q3⟩ := h6 e; Nat.ne_of_lt q3.lt), n2, fun _ e => (let ⟨_, _, u, q3⟩ := h8 e; (Nat.ne_of_lt q3.lt).symm)⟩
theorem J3.mark8 {x y z : Rk} {w1 : World} {L : Nat → Bool} {s7 s8 s9 s12 s13 s14 s15 s16 s17 : Value} {w : World} (h : J3 x y z w1 L s7 s8 s9 s12 s13 s14 s15 s16 s17 w) : J3 x y z w1 (fun j => if j = 8 then true else L j) s7 s8 (.pointer (some ⟨w.heap.size, 0, none⟩)) s12 s13 s14 s15 s16 s17 (w.alloc (.cells #[.int .i64 0, .int .i64 0, .int .i64 0, .int .i64 0] 26)) := by
  obtain ⟨B7, B8, B9, h6, h7, h8, n1, n2, n3⟩ := h.bx
  exact ⟨h.gr.alloc _, h.l0, h.l1, h.l2, h.l3, h.l4, h.l5, B7, B8, w.heap.size, fun e => (let ⟨q1, q2, u, q3⟩ := h6 e; ⟨q1, q2, u, q3.alloc _⟩), fun e => (let ⟨q1, q2, u, q3⟩ := h7 e; ⟨q1, q2, u, q3.alloc _⟩), fun _ => ⟨rfl, h.gr.size, ⟨0, 0, 0, 0⟩, Box.new w ⟨0, 0, 0, 0⟩ 26⟩, n1, fun e _ => (let ⟨_, _, u, q3⟩ := h6 e; Nat.ne_of_lt q3.lt), fun e _ => (let ⟨_, _, u, q3⟩ := h7 e; Nat.ne_of_lt q3.lt)⟩

/-- Stores into another block. -/
theorem Box.far {W : World} {B C : Nat} {x : Rk} (h : Box W B x) (hne : B ≠ C) (o : Nat) (v : Value) : Box (W.setCell ⟨C, o, none⟩ v) B x :=
  ⟨cell_set h.c0 hne v, cell_set h.c1 hne v, cell_set h.c2 hne v, cell_set h.c3 hne v, fun p => by rw [World.frozen?_setCell]; exact h.f0 p⟩
theorem Box.far4 {W : World} {B C : Nat} {x : Rk} (h : Box W B x) (hne : B ≠ C) (v0 v1 v2 v3 : Value) : Box ((((W.setCell ⟨C, 0, none⟩ v0).setCell ⟨C, 1, none⟩ v1).setCell ⟨C, 2, none⟩ v2).setCell ⟨C, 3, none⟩ v3) B x :=
  (((h.far hne 0 v0).far hne 1 v1).far hne 2 v2).far hne 3 v3
theorem Box.set4 {W : World} {B : Nat} {x y : Rk} (h : Box W B x) : Box ((((W.setCell ⟨B, 0, none⟩ (.int .i64 y.d)).setCell ⟨B, 1, none⟩ (.int .i64 y.b)).setCell ⟨B, 2, none⟩ (.int .i64 y.g)).setCell ⟨B, 3, none⟩ (.int .i64 y.i)) B y := h.set

/-- A bit: nought, one, or neither. -/
theorem tri (a : Int) : (Hid (a = 0) ∧ (a != 0) = false ∧ (a != 1) = true) ∨ (Hid (a = 1) ∧ (a != 0) = true ∧ (a != 1) = false) ∨ (Hid (a ≠ 0 ∧ a ≠ 1) ∧ (a != 0) = true ∧ (a != 1) = true) := by
  by_cases h0 : a = 0
  · exact .inl ⟨h0, by simp [h0], by simp [h0]⟩
  · by_cases h1 : a = 1
    · exact .inr (.inl ⟨h1, by simp [h1], by simp [h1]⟩)
    · exact .inr (.inr ⟨⟨h0, h1⟩, by simp [h0], by simp [h1]⟩)

end Go.Proofs.Ytpaiaoaffoeleaa
