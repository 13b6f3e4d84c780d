/- A slice of pieces that comes in, opened. -/
import Derived.Test.YtgnfmmoanmhgpaaE2
import Derived.Deep.Strs
import Derived.Deep.Slices
import Derived.Lib.SmallJoins
import Derived.ProofKit
import Derived.OpenShut
namespace Go.Proofs.Ytgnfmmoanmhgpaa
open Go.ChangeShapes Go.WideShapes Go.ChangeAt Go.RowKit Go.Joins Go.Deep
set_option linter.unusedVariables false

/-- The cells of a piece. -/
def pcL (x : Pc) : List Value := [.int .i64 x.e, .int .i64 x.c, .int .i64 x.i, .int .i64 x.fn, .int .i64 x.fd, .int .i64 x.tn, .int .i64 x.td, .bool x.s]

section
variable {H : Type} {enc : TypeId × Value → H} {P : Program} {w : World}
theorem list_eight {α : Type} {l : List α} (h : l.length = 8) : ∃ a b c d e f g i, l = [a, b, c, d, e, f, g, i] := by
  match l, h with
  | [a, b, c, d, e, f, g, i], _ => exact ⟨a, b, c, d, e, f, g, i, rfl⟩
theorem list_two {α : Type} {l : List α} (h : l.length = 2) : ∃ a b, l = [a, b] := by
  match l, h with
  | [a, b], _ => exact ⟨a, b, rfl⟩
theorem cells30 : Try.prog.cellsOf 30 = 8 := by kernel_rfl
theorem cells28 : Try.prog.cellsOf 28 = 2 := by kernel_rfl
theorem cells2 : Try.prog.cellsOf 2 = 1 := by kernel_rfl
theorem cells3 : Try.prog.cellsOf 3 = 1 := by kernel_rfl
theorem cells4 : Try.prog.cellsOf 4 = 1 := by kernel_rfl
theorem rat_of_trod {n : Nat} {cs : List Value} {x : DataW H × List MemPlace} {base : Nat} {spare : Nat → Bool} {held : Bool} (h : DataW.trod enc Try.prog w base spare held n 28 cs = some x) : ∃ a b, cs = [.int .i64 a, .int .i64 b] := by
  obtain ⟨y0, y1, m, hx, hl, h0, h1⟩ := trod_struct2 Try.underlying28 h
  obtain ⟨c0, c1, rfl⟩ := list_two (hl.trans cells28)
  obtain ⟨x0, f0, _, _⟩ := DataW.trod_int Try.underlying2 h0
  obtain ⟨x1, f1, _, _⟩ := DataW.trod_int Try.underlying2 h1
  simp [cells2] at f0 f1
  subst f0 f1
  exact ⟨x0, x1, rfl⟩
theorem list_six {α : Type} {l : List α} (h : l.length = 6) : ∃ a b c d e f, l = [a, b, c, d, e, f] := by
  match l, h with
  | [a, b, c, d, e, f], _ => exact ⟨a, b, c, d, e, f, rfl⟩
theorem pc_of_trod {n : Nat} {cs : List Value} {x : DataW H × List MemPlace} {base : Nat} {spare : Nat → Bool} {held : Bool} (hl : cs.length = Try.prog.cellsOf 30) (h : DataW.trod enc Try.prog w base spare held n 30 cs = some x) : ∃ p : Pc, cs = pcL p := by
  obtain ⟨c0, c1, c2, c3, c4, c5, c6, c7, rfl⟩ := list_eight (hl.trans cells30)
  obtain ⟨xs, m, _, hx, _, hl', hel⟩ := DataW.trod_struct Try.underlying30 h
  obtain ⟨y0, y1, y2, y3, y4, y5, rfl⟩ := list_six hl'
  have e0 : DataW.trod enc Try.prog w base spare held m 3 [c0] = some y0 := by simpa [cells3, cells28, cells4] using hel 0 _ rfl
  have e1 : DataW.trod enc Try.prog w base spare held m 3 [c1] = some y1 := by simpa [cells3, cells28, cells4] using hel 1 _ rfl
  have e2 : DataW.trod enc Try.prog w base spare held m 3 [c2] = some y2 := by simpa [cells3, cells28, cells4] using hel 2 _ rfl
  have e3 : DataW.trod enc Try.prog w base spare held m 28 [c3, c4] = some y3 := by simpa [cells3, cells28, cells4] using hel 3 _ rfl
  have e4 : DataW.trod enc Try.prog w base spare held m 28 [c5, c6] = some y4 := by simpa [cells3, cells28, cells4] using hel 4 _ rfl
  have e5 : DataW.trod enc Try.prog w base spare held m 4 [c7] = some y5 := by simpa [cells3, cells28, cells4] using hel 5 _ rfl
  obtain ⟨x0, f0, _, _⟩ := DataW.trod_int Try.underlying3 e0
  obtain ⟨x1, f1, _, _⟩ := DataW.trod_int Try.underlying3 e1
  obtain ⟨x2, f2, _, _⟩ := DataW.trod_int Try.underlying3 e2
  obtain ⟨x3, x4, f3⟩ := rat_of_trod e3
  obtain ⟨x5, x6, f4⟩ := rat_of_trod e4
  obtain ⟨x7, f5, _⟩ := DataW.trod_bool Try.underlying4 e5
  simp only [List.cons.injEq, and_true] at f0 f1 f2 f3 f4 f5
  obtain ⟨f3, f3'⟩ := f3
  obtain ⟨f4, f4'⟩ := f4
  subst f0 f1 f2 f3 f3' f4 f4' f5
  exact ⟨⟨x0, x1, x2, x3, x4, x5, x6, x7⟩, rfl⟩

/-- What a slice of elements of k cells that came in is: none, or their cells. -/
def ElemsIn {α : Type} (w : World) (k : Nat) (val : α → List Value) (a : Option Addr) (n : Nat) : Prop :=
  n = 0 ∨ ∃ (b off : Nat) (q : Nat → α), a = some ⟨b, off, none⟩ ∧ b < w.heap.size ∧ ∀ i, i < n → ∀ j, j < k → w.cell? ⟨b, off + i * k + j, none⟩ = (val (q i))[j]?

theorem open_elems {α : Type} [Inhabited α] {r : Reach} {b0 k : Nat} {st t : TypeId} {v : Value} {d : DataW H} {p : List MemPlace} (val : α → List Value) (hst : P.underlying st = some (.slice t)) (hC : P.cellsOf t = k) (hk : 0 < k) (hl : ∀ e, (val e).length = k)
    (hval : ∀ {n : Nat} {cs : List Value} {x : DataW H × List MemPlace} {base : Nat} {spare : Nat → Bool} {held : Bool}, cs.length = P.cellsOf t → DataW.trod enc P w base spare held n t cs = some x → ∃ e, cs = val e)
    (hv : Value.okWide P w r b0 st v) (h : DataW.Trod enc P w 0 (fun _ => true) true st v d p) :
    ∃ a n cap, v = .slice a n cap ∧ ElemsIn w k val a n := by
  obtain ⟨a0, n0, c0, rfl⟩ := okWide_slice hst hv
  refine ⟨a0, n0, c0, rfl, ?_⟩
  obtain ⟨fuel, hf⟩ := h
  rcases open_slice hst hf with ⟨hc, _⟩ | ⟨a, len, cap, m, n, D, Pl, hc, _, hl', hm, hmm, _, hel⟩
  · simp [Value.cells] at hc
    exact Or.inl hc.2.1
  · simp [Value.cells] at hc
    obtain ⟨rfl, rfl, rfl⟩ := hc
    rcases Nat.eq_zero_or_pos n0 with h0 | h0
    · exact Or.inl h0
    · refine Or.inr ?_
      have hm' : m = c0 := by simpa using hmm
      have each : ∀ i, i < n0 → ∃ e : α, ∀ j, j < k → w.cell? ((a.add (i * k)).add j) = (val e)[j]? := fun i hi => by
        obtain ⟨cs', h1, h2⟩ := hel i (by omega)
        obtain ⟨_, q2, q3⟩ := World.cells?_some h1
        obtain ⟨e, rfl⟩ := hval q2 h2
        rw [hC] at q3
        exact ⟨e, fun j hj => q3 j hj⟩
      obtain ⟨e0, g0⟩ := each 0 h0
      have hg := g0 0 hk
      rw [List.getElem?_eq_getElem (by rw [hl]; exact hk)] at hg
      have hsp : a.spot = none := World.cell?_spot (by simpa [Addr.add] using hg)
      have hlt : a.block < w.heap.size := by
        have := cell_lt hg
        simpa [Addr.add] using this
      obtain ⟨b, off, sp⟩ := a
      simp only at hsp hlt
      subst hsp
      obtain ⟨f, hf'⟩ := choose_lt (α := α) each
      refine ⟨b, off, f, rfl, hlt, fun i hi j hj => ?_⟩
      have := hf' i hi j hj
      rw [add_add] at this
      have e : (⟨b, off, none⟩ : Addr).add (i * k + j) = ⟨b, off + i * k + j, none⟩ := by unfold Addr.add; split <;> simp_all [Nat.add_assoc]
      rwa [e] at this
end


/-- The pieces that came in, cell by cell. -/
def PcsAt (w : World) (a : Option Addr) (n : Nat) (q : Nat → Pc) : Prop := 0 < n → ∃ b0 o0, a = some ⟨b0, o0, none⟩ ∧ b0 < w.heap.size ∧ ∀ i, i < n → ∀ j, j < 8 → w.cell? ⟨b0, o0 + i * 8 + j, none⟩ = some (cellE ⟨0, 0, q i⟩ (j + 2))
theorem pcsAt_of {w : World} {a : Option Addr} {n : Nat} (h : ElemsIn w 8 pcL a n) : ∃ q : Nat → Pc, PcsAt w a n q := by
  rcases h with e | ⟨b, off, q, rfl, hb, hc⟩
  · exact ⟨fun _ => default, fun h => by omega⟩
  · refine ⟨q, fun _ => ⟨b, off, rfl, hb, fun i hi j hj => (hc i hi j hj).trans ?_⟩⟩
    rcases (show j = 0 ∨ j = 1 ∨ j = 2 ∨ j = 3 ∨ j = 4 ∨ j = 5 ∨ j = 6 ∨ j = 7 by omega) with rfl | rfl | rfl | rfl | rfl | rfl | rfl | rfl <;> rfl
end Go.Proofs.Ytgnfmmoanmhgpaa
