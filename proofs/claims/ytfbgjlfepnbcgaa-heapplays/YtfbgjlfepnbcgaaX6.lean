/- Slices of ranks and of deeds that come in, opened. -/
import Derived.Test.YtfbgjlfepnbcgaaW6
import Derived.Deep.Strs
import Derived.Deep.Slices
import Derived.Lib.SmallJoins
import Derived.ProofKit
import Derived.OpenShut
namespace Go.Proofs.Ytfbgjlfepnbcgaa
open Go.ChangeShapes Go.WideShapes Go.ChangeAt Go.RowKit Go.Joins Go.Deep
set_option linter.unusedVariables false

section
variable {H : Type} {enc : TypeId × Value → H} {P : Program} {w : World}

theorem list_four {α : Type} {l : List α} (h : l.length = 4) : ∃ a b c d, l = [a, b, c, d] := by
  match l, h with
  | [a, b, c, d], _ => exact ⟨a, b, c, d, rfl⟩
theorem list_six {α : Type} {l : List α} (h : l.length = 6) : ∃ a b c d e f, l = [a, b, c, d, e, f] := by
  match l, h with
  | [a, b, c, d, e, f], _ => exact ⟨a, b, c, d, e, f, rfl⟩

/-- The cells of a rank, of a deed. -/
def rkCells (r : Rk) : List Value := [.int .i64 r.d, .int .i64 r.b, .int .i64 r.g, .int .i64 r.i]
structure Deed where
  o : Int
  s : Int
  r : Rk
  deriving Inhabited
def deedCells (d : Deed) : List Value := [.int .i64 d.o, .int .i64 d.s, .int .i64 d.r.d, .int .i64 d.r.b, .int .i64 d.r.g, .int .i64 d.r.i]

theorem rk_of_trod {t : TypeId} {f0 f1 f2 f3 : Field} {n : Nat} {cs : List Value} {x : DataW H × List MemPlace} {base : Nat} {spare : Nat → Bool} {held : Bool} (hs : P.underlying t = some (.struct #[f0, f1, f2, f3])) (hone : oneCellFields P #[f0, f1, f2, f3] = true) (hC : P.cellsOf t = 4)
    (he0 : P.underlying f0.type = some (.int .i64)) (he1 : P.underlying f1.type = some (.int .i64)) (he2 : P.underlying f2.type = some (.int .i64)) (he3 : P.underlying f3.type = some (.int .i64))
    (h : DataW.trod enc P w base spare held n t cs = some x) : ∃ r : Rk, cs = rkCells r := by
  obtain ⟨y0, y1, y2, y3, m, hx, hl, h0, h1, h2, h3⟩ := trod_struct4 hs h
  obtain ⟨c0, c1, c2, c3, rfl⟩ := list_four (hl.trans hC)
  obtain ⟨o0, k0⟩ := hone_of hone 0 f0 rfl
  obtain ⟨o1, k1⟩ := hone_of hone 1 f1 rfl
  obtain ⟨o2, k2⟩ := hone_of hone 2 f2 rfl
  obtain ⟨o3, k3⟩ := hone_of hone 3 f3 rfl
  obtain ⟨x0, f0', _, _⟩ := DataW.trod_int he0 h0
  obtain ⟨x1, f1', _, _⟩ := DataW.trod_int he1 h1
  obtain ⟨x2, f2', _, _⟩ := DataW.trod_int he2 h2
  obtain ⟨x3, f3', _, _⟩ := DataW.trod_int he3 h3
  simp [o0, k0] at f0'
  simp [o1, k1] at f1'
  simp [o2, k2] at f2'
  simp [o3, k3] at f3'
  subst f0' f1' f2' f3'
  exact ⟨⟨x0, x1, x2, x3⟩, rfl⟩

theorem deed_of_trod {t : TypeId} {g0 g1 g2 f0 f1 f2 f3 : Field} {n : Nat} {cs : List Value} {x : DataW H × List MemPlace} {base : Nat} {spare : Nat → Bool} {held : Bool} (ht : P.underlying t = some (.struct #[g0, g1, g2])) (hC6 : P.cellsOf t = 6)
    (o0 : g0.offset = 0) (o1 : g1.offset = 1) (o2 : g2.offset = 2) (k0 : P.cellsOf g0.type = 1) (k1 : P.cellsOf g1.type = 1) (hg0 : P.underlying g0.type = some (.int .i64)) (hg1 : P.underlying g1.type = some (.int .i64))
    (hs : P.underlying g2.type = some (.struct #[f0, f1, f2, f3])) (hone : oneCellFields P #[f0, f1, f2, f3] = true) (hC : P.cellsOf g2.type = 4)
    (he0 : P.underlying f0.type = some (.int .i64)) (he1 : P.underlying f1.type = some (.int .i64)) (he2 : P.underlying f2.type = some (.int .i64)) (he3 : P.underlying f3.type = some (.int .i64))
    (h : DataW.trod enc P w base spare held n t cs = some x) : ∃ d : Deed, cs = deedCells d := by
  obtain ⟨y0, y1, y2, m, hx, hl, h0, h1, h2⟩ := trod_struct3 ht h
  obtain ⟨c0, c1, c2, c3, c4, c5, rfl⟩ := list_six (hl.trans hC6)
  obtain ⟨x0, f0', _, _⟩ := DataW.trod_int hg0 h0
  obtain ⟨x1, f1', _, _⟩ := DataW.trod_int hg1 h1
  obtain ⟨r, e2⟩ := rk_of_trod hs hone hC he0 he1 he2 he3 h2
  simp [o0, k0] at f0'
  simp [o1, k1] at f1'
  simp [o2, hC, rkCells] at e2
  obtain ⟨e2, e3, e4, e5⟩ := e2
  subst f0' f1' e2 e3 e4 e5
  exact ⟨⟨x0, x1, r⟩, rfl⟩

/-- What a slice of elements of k cells that came in is: none, or their cells. -/
def ElemsIn {α : Type} (w : World) (k : Nat) (val : α → List Value) (a : Option Addr) (n : Nat) : Prop :=
  n = 0 ∨ ∃ (b off : Nat) (q : Nat → α), a = some ⟨b, off, none⟩ ∧ b < w.heap.size ∧ ∀ i, i < n → ∀ j, j < k → w.cell? ⟨b, off + i * k + j, none⟩ = (val (q i))[j]?

theorem open_elems {α : Type} [Inhabited α] {r : Reach} {b0 k : Nat} {st t : TypeId} {v : Value} {d : DataW H} {p : List MemPlace} (val : α → List Value) (hst : P.underlying st = some (.slice t)) (hC : P.cellsOf t = k) (hk : 0 < k) (hl : ∀ e, (val e).length = k)
    (hval : ∀ {n : Nat} {cs : List Value} {x : DataW H × List MemPlace} {base : Nat} {spare : Nat → Bool} {held : Bool}, DataW.trod enc P w base spare held n t cs = some x → ∃ e, cs = val e)
    (hv : Value.okWide P w r b0 st v) (h : DataW.Trod enc P w 0 (fun _ => true) true st v d p) :
    ∃ a n cap, v = .slice a n cap ∧ ElemsIn w k val a n := by
  obtain ⟨a0, n0, c0, rfl⟩ := okWide_slice hst hv
  refine ⟨a0, n0, c0, rfl, ?_⟩
  obtain ⟨fuel, hf⟩ := h
  rcases open_slice hst hf with ⟨hc, _⟩ | ⟨a, len, cap, m, n, D, Pl, hc, _, hl', hm, hmm, _, hel⟩
  · simp [Value.cells] at hc
    exact Or.inl hc.2.1
  · simp [Value.cells] at hc
    obtain ⟨rfl, rfl, rfl⟩ := hc
    rcases Nat.eq_zero_or_pos n0 with h0 | h0
    · exact Or.inl h0
    · refine Or.inr ?_
      have hm' : m = c0 := by simpa using hmm
      have each : ∀ i, i < n0 → ∃ e : α, ∀ j, j < k → w.cell? ((a.add (i * k)).add j) = (val e)[j]? := fun i hi => by
        obtain ⟨cs', h1, h2⟩ := hel i (by omega)
        obtain ⟨e, rfl⟩ := hval h2
        rw [hC] at h1
        obtain ⟨_, q2, q3⟩ := World.cells?_some h1
        exact ⟨e, fun j hj => q3 j hj⟩
      obtain ⟨e0, g0⟩ := each 0 h0
      have hg := g0 0 hk
      rw [List.getElem?_eq_getElem (by rw [hl]; exact hk)] at hg
      have hsp : a.spot = none := World.cell?_spot (by simpa [Addr.add] using hg)
      have hlt : a.block < w.heap.size := by
        have := lt_of_cell hg
        simpa [Addr.add] using this
      obtain ⟨b, off, sp⟩ := a
      simp only at hsp hlt
      subst hsp
      obtain ⟨f, hf'⟩ := choose_lt (α := α) each
      refine ⟨b, off, f, rfl, hlt, fun i hi j hj => ?_⟩
      have := hf' i hi j hj
      rw [add_add] at this
      have e : (⟨b, off, none⟩ : Addr).add (i * k + j) = ⟨b, off + i * k + j, none⟩ := by unfold Addr.add; split <;> simp_all [Nat.add_assoc]
      rwa [e] at this
end
end Go.Proofs.Ytfbgjlfepnbcgaa
