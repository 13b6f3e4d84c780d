/- Slices of pairs that come in, opened. -/
import Derived.Test.YthglpaijeijbhaaC1
import Derived.Deep.Strs
import Derived.Deep.Slices
import Derived.Lib.SmallJoins
import Derived.ProofKit
import Derived.OpenShut
namespace Go.Proofs.Ythglpaijeijbhaa
open Go.ChangeShapes Go.WideShapes Go.ChangeAt Go.RowKit Go.Joins Go.Deep
set_option linter.unusedVariables false

/-- A pair of numbers of a kind that came in. -/
structure Pk (k : IntKind) where
  a : Int
  b : Int
  ha : (Lit.int k a).wf = true
  hb : (Lit.int k b).wf = true
instance : Inhabited (Pk .i16) := ⟨⟨0, 0, by decide, by decide⟩⟩
instance : Inhabited (Pk .i64) := ⟨⟨0, 0, by decide, by decide⟩⟩
def prCells {k : IntKind} (p : Pk k) : List Value := [.int k p.a, .int k p.b]

section
variable {H : Type} {enc : TypeId × Value → H} {P : Program} {w : World}

theorem list_two {α : Type} {l : List α} (h : l.length = 2) : ∃ a b, l = [a, b] := by
  match l, h with
  | [a, b], _ => exact ⟨a, b, rfl⟩

theorem pr_of_trod {k : IntKind} {t e : TypeId} {n : Nat} {cs : List Value} {x : DataW H × List MemPlace} {base : Nat} {spare : Nat → Bool} {held : Bool} (ht : P.underlying t = some (.array 2 e)) (he : P.underlying e = some (.int k)) (hC : P.cellsOf t = 2) (hE : P.cellsOf e = 1)
    (hl : cs.length = P.cellsOf t) (h : DataW.trod enc P w base spare held n t cs = some x) : ∃ p : Pk k, cs = prCells p := by
  obtain ⟨c0, c1, rfl⟩ := list_two (hl.trans hC)
  obtain ⟨xs, m, _, hx, _, hl', hel⟩ := DataW.trod_array ht h
  obtain ⟨y0, y1, rfl⟩ := list_two hl'
  have e0 := hel 0 (by decide)
  have e1 := hel 1 (by decide)
  rw [hE] at e0 e1
  obtain ⟨x0, f0, g0, w0⟩ := DataW.trod_int he (show DataW.trod enc P w base spare held m e [c0] = some y0 from by simpa using e0)
  obtain ⟨x1, f1, g1, w1⟩ := DataW.trod_int he (show DataW.trod enc P w base spare held m e [c1] = some y1 from by simpa using e1)
  simp at f0 f1
  subst f0 f1
  exact ⟨⟨x0, x1, w0, w1⟩, rfl⟩

/-- What a slice of elements of k cells that came in is: none, or their cells. -/
def ElemsIn {α : Type} (w : World) (k : Nat) (val : α → List Value) (a : Option Addr) (n : Nat) : Prop :=
  n = 0 ∨ ∃ (b off : Nat) (q : Nat → α), a = some ⟨b, off, none⟩ ∧ b < w.heap.size ∧ ∀ i, i < n → ∀ j, j < k → w.cell? ⟨b, off + i * k + j, none⟩ = (val (q i))[j]?

theorem open_elems {α : Type} [Inhabited α] {r : Reach} {b0 k : Nat} {st t : TypeId} {v : Value} {d : DataW H} {p : List MemPlace} (val : α → List Value) (hst : P.underlying st = some (.slice t)) (hC : P.cellsOf t = k) (hk : 0 < k) (hl : ∀ e, (val e).length = k)
    (hval : ∀ {n : Nat} {cs : List Value} {x : DataW H × List MemPlace} {base : Nat} {spare : Nat → Bool} {held : Bool}, cs.length = P.cellsOf t → DataW.trod enc P w base spare held n t cs = some x → ∃ e, cs = val e)
    (hv : Value.okWide P w r b0 st v) (h : DataW.Trod enc P w 0 (fun _ => true) true st v d p) :
    ∃ a n cap, v = .slice a n cap ∧ ElemsIn w k val a n := by
  obtain ⟨a0, n0, c0, rfl⟩ := okWide_slice hst hv
  refine ⟨a0, n0, c0, rfl, ?_⟩
  obtain ⟨fuel, hf⟩ := h
  rcases open_slice hst hf with ⟨hc, _⟩ | ⟨a, len, cap, m, n, D, Pl, hc, _, hl', hm, hmm, _, hel⟩
  · simp [Value.cells] at hc
    exact Or.inl hc.2.1
  · simp [Value.cells] at hc
    obtain ⟨rfl, rfl, rfl⟩ := hc
    rcases Nat.eq_zero_or_pos n0 with h0 | h0
    · exact Or.inl h0
    · refine Or.inr ?_
      have hm' : m = c0 := by simpa using hmm
      have each : ∀ i, i < n0 → ∃ e : α, ∀ j, j < k → w.cell? ((a.add (i * k)).add j) = (val e)[j]? := fun i hi => by
        obtain ⟨cs', h1, h2⟩ := hel i (by omega)
        obtain ⟨_, q2, q3⟩ := World.cells?_some h1
        obtain ⟨e, rfl⟩ := hval q2 h2
        rw [hC] at q3
        exact ⟨e, fun j hj => q3 j hj⟩
      obtain ⟨e0, g0⟩ := each 0 h0
      have hg := g0 0 hk
      rw [List.getElem?_eq_getElem (by rw [hl]; exact hk)] at hg
      have hsp : a.spot = none := World.cell?_spot (by simpa [Addr.add] using hg)
      have hlt : a.block < w.heap.size := by
        have := cell_lt hg
        simpa [Addr.add] using this
      obtain ⟨b, off, sp⟩ := a
      simp only at hsp hlt
      subst hsp
      obtain ⟨f, hf'⟩ := choose_lt (α := α) each
      refine ⟨b, off, f, rfl, hlt, fun i hi j hj => ?_⟩
      have := hf' i hi j hj
      rw [add_add] at this
      have e : (⟨b, off, none⟩ : Addr).add (i * k + j) = ⟨b, off + i * k + j, none⟩ := by unfold Addr.add; split <;> simp_all [Nat.add_assoc]
      rwa [e] at this
end

/-- The pairs that came in, cell by cell. -/
def PrsIn {k : IntKind} (w : World) (b0 o0 n : Nat) (q : Nat → Pk k) : Prop := ∀ i, i < n → w.cell? ⟨b0, o0 + i * 2, none⟩ = some (.int k (q i).a) ∧ w.cell? ⟨b0, o0 + i * 2 + 1, none⟩ = some (.int k (q i).b)
def PrsAt {k : IntKind} (w : World) (a : Option Addr) (n : Nat) (q : Nat → Pk k) : Prop := 0 < n → ∃ b0 o0, a = some ⟨b0, o0, none⟩ ∧ b0 < w.heap.size ∧ PrsIn w b0 o0 n q
theorem prsAt_of {k : IntKind} [Inhabited (Pk k)] {w : World} {a : Option Addr} {n : Nat} (h : ElemsIn w 2 (prCells (k := k)) a n) : ∃ q : Nat → Pk k, PrsAt w a n q := by
  rcases h with e | ⟨b, off, q, rfl, hb, hc⟩
  · exact ⟨fun _ => default, fun h => by omega⟩
  · exact ⟨q, fun _ => ⟨b, off, rfl, hb, fun i hi => ⟨by simpa [prCells] using hc i hi 0 (by omega), by simpa [prCells] using hc i hi 1 (by omega)⟩⟩⟩
end Go.Proofs.Ythglpaijeijbhaa
