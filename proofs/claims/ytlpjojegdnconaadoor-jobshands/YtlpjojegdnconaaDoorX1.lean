/- Values that come in, opened: an array of two small numbers, slices of bools, of deeds. -/
import Derived.Test.YtlpjojegdnconaaDoorV2
import Derived.Deep.Strs
import Derived.Deep.Slices
import Derived.Lib.SmallJoins
import Derived.ProofKit
import Derived.OpenShut
namespace Go.Proofs.YtlpjojegdnconaaDoor
open Go.ChangeShapes Go.WideShapes Go.ChangeAt Go.RowKit Go.Joins Go.Deep
set_option linter.unusedVariables false

theorem u8_nat {n : Int} (h : (Lit.int .u8 n).wf = true) : ∃ m : Nat, n = m ∧ m < 256 := by
  have : 0 ≤ n ∧ n ≤ 255 := by
    have e1 : IntKind.u8.min = 0 := by decide
    have e2 : IntKind.u8.max = 255 := by decide
    simp [Lit.wf, e1, e2] at h
    omega
  exact ⟨n.toNat, by omega, by omega⟩
/-- A bool that came in. -/
structure Bo where
  b : Bool
instance : Inhabited Bo := ⟨⟨false⟩⟩
def boCells (p : Bo) : List Value := [.bool p.b]
/-- A deed that came in. -/
structure De where
  o : Int
  i : Int
  e : Int
  p : Int
  s : Bool
  ho : (Lit.int .i64 o).wf = true
  hi : (Lit.int .i64 i).wf = true
  he : (Lit.int .i64 e).wf = true
  hp : (Lit.int .i64 p).wf = true
instance : Inhabited De := ⟨⟨0, 0, 0, 0, false, by decide, by decide, by decide, by decide⟩⟩
def deCells (d : De) : List Value := [.int .i64 d.o, .int .i64 d.i, .int .i64 d.e, .int .i64 d.p, .bool d.s]
section
variable {H : Type} {enc : TypeId × Value → H} {P : Program} {w : World} {base : Nat} {spare : Nat → Bool} {held : Bool}
theorem list_two {α : Type} {l : List α} (h : l.length = 2) : ∃ a b, l = [a, b] := by
  match l, h with
  | [a, b], _ => exact ⟨a, b, rfl⟩
theorem list_five {α : Type} {l : List α} (h : l.length = 5) : ∃ a b c d e, l = [a, b, c, d, e] := by
  match l, h with
  | [a, b, c, d, e], _ => exact ⟨a, b, c, d, e, rfl⟩
theorem open_two {r : Reach} {b0 : Nat} {t e : TypeId} {k : IntKind} {v : Value} {d : DataW H} {p : List MemPlace} (ht : P.underlying t = some (.array 2 e)) (he : P.underlying e = some (.int k)) (hC : P.cellsOf t = 2) (hE : P.cellsOf e = 1)
    (hv : Value.okWide P w r b0 t v) (h : DataW.Trod enc P w base spare held t v d p) :
    ∃ x0 x1 : Int, v = .agg #[.int k x0, .int k x1] ∧ d = .agg [.lit (.int k x0), .lit (.int k x1)] ∧ p = [] ∧ (Lit.int k x0).wf = true ∧ (Lit.int k x1).wf = true := by
  obtain ⟨cs, rfl, hsz⟩ : ∃ cs, v = .agg cs ∧ cs.size = P.cellsOf t := by
    simp only [Value.okWide, ht] at hv
    obtain ⟨cs, h1, h2, _⟩ := hv
    exact ⟨cs, h1, h2⟩
  obtain ⟨c0, c1, rfl⟩ := array2 (hsz.trans hC)
  obtain ⟨fuel, hf⟩ := h
  obtain ⟨xs, m, _, hx, _, hl, hel⟩ := DataW.trod_array ht hf
  obtain ⟨y0, y1, rfl⟩ := list_two hl
  have e0 := hel 0 (by decide)
  have e1 := hel 1 (by decide)
  rw [hE] at e0 e1
  obtain ⟨x0, f0, g0, w0⟩ := DataW.trod_int he (show DataW.trod enc P w base spare held m e [c0] = some y0 from by simpa [Value.cells] using e0)
  obtain ⟨x1, f1, g1, w1⟩ := DataW.trod_int he (show DataW.trod enc P w base spare held m e [c1] = some y1 from by simpa [Value.cells] using e1)
  simp at f0 f1
  subst f0 f1 g0 g1
  simp at hx
  exact ⟨x0, x1, rfl, hx.1, hx.2, w0, w1⟩

theorem shut_two {t e : TypeId} {k : IntKind} {x0 x1 : Int} (ht : P.underlying t = some (.array 2 e)) (he : P.underlying e = some (.int k)) (hC : P.cellsOf t = 2) (hE : P.cellsOf e = 1) (w0 : (Lit.int k x0).wf = true) (w1 : (Lit.int k x1).wf = true) :
    DataW.Trod enc P w base spare held t (.agg #[.int k x0, .int k x1]) (.agg [.lit (.int k x0), .lit (.int k x1)]) [] :=
  ⟨2, by simp [DataW.trod, Value.cells, ht, he, hC, hE, w0, w1, show List.range 2 = [0, 1] from rfl]⟩
end
section
variable {H : Type} {enc : TypeId × Value → H} {P : Program} {w : World}
theorem bo_of_trod {e : TypeId} {n : Nat} {cs : List Value} {x : DataW H × List MemPlace} {base : Nat} {spare : Nat → Bool} {held : Bool} (he : P.underlying e = some .bool) (hE : P.cellsOf e = 1)
    (hl : cs.length = P.cellsOf e) (h : DataW.trod enc P w base spare held n e cs = some x) : ∃ p : Bo, cs = boCells p := by
  obtain ⟨b, rfl, _⟩ := DataW.trod_bool he h
  exact ⟨⟨b⟩, rfl⟩
/-- What a slice of elements of k cells that came in is: none, or their cells. -/
def ElemsIn {α : Type} (w : World) (k : Nat) (val : α → List Value) (a : Option Addr) (n : Nat) : Prop :=
  n = 0 ∨ ∃ (b off : Nat) (q : Nat → α), a = some ⟨b, off, none⟩ ∧ b < w.heap.size ∧ ∀ i, i < n → ∀ j, j < k → w.cell? ⟨b, off + i * k + j, none⟩ = (val (q i))[j]?

theorem open_elems {α : Type} [Inhabited α] {r : Reach} {b0 k : Nat} {st t : TypeId} {v : Value} {d : DataW H} {p : List MemPlace} (val : α → List Value) (hst : P.underlying st = some (.slice t)) (hC : P.cellsOf t = k) (hk : 0 < k) (hl : ∀ e, (val e).length = k)
    (hval : ∀ {n : Nat} {cs : List Value} {x : DataW H × List MemPlace} {base : Nat} {spare : Nat → Bool} {held : Bool}, cs.length = P.cellsOf t → DataW.trod enc P w base spare held n t cs = some x → ∃ e, cs = val e)
    (hv : Value.okWide P w r b0 st v) (h : DataW.Trod enc P w 0 (fun _ => true) true st v d p) :
    ∃ a n cap, v = .slice a n cap ∧ ElemsIn w k val a n := by
  obtain ⟨a0, n0, c0, rfl⟩ := okWide_slice hst hv
  refine ⟨a0, n0, c0, rfl, ?_⟩
  obtain ⟨fuel, hf⟩ := h
  rcases open_slice hst hf with ⟨hc, _⟩ | ⟨a, len, cap, m, n, D, Pl, hc, _, hl', hm, hmm, _, hel⟩
  · simp [Value.cells] at hc
    exact Or.inl hc.2.1
  · simp [Value.cells] at hc
    obtain ⟨rfl, rfl, rfl⟩ := hc
    rcases Nat.eq_zero_or_pos n0 with h0 | h0
    · exact Or.inl h0
    · refine Or.inr ?_
      have hm' : m = c0 := by simpa using hmm
      have each : ∀ i, i < n0 → ∃ e : α, ∀ j, j < k → w.cell? ((a.add (i * k)).add j) = (val e)[j]? := fun i hi => by
        obtain ⟨cs', h1, h2⟩ := hel i (by omega)
        obtain ⟨_, q2, q3⟩ := World.cells?_some h1
        obtain ⟨e, rfl⟩ := hval q2 h2
        rw [hC] at q3
        exact ⟨e, fun j hj => q3 j hj⟩
      obtain ⟨e0, g0⟩ := each 0 h0
      have hg := g0 0 hk
      rw [List.getElem?_eq_getElem (by rw [hl]; exact hk)] at hg
      have hsp : a.spot = none := World.cell?_spot (by simpa [Addr.add] using hg)
      have hlt : a.block < w.heap.size := by
        have := Ca.lt_of_cell hg
        simpa [Addr.add] using this
      obtain ⟨b, off, sp⟩ := a
      simp only at hsp hlt
      subst hsp
      obtain ⟨f, hf'⟩ := choose_lt (α := α) each
      refine ⟨b, off, f, rfl, hlt, fun i hi j hj => ?_⟩
      have := hf' i hi j hj
      rw [add_add] at this
      have e : (⟨b, off, none⟩ : Addr).add (i * k + j) = ⟨b, off + i * k + j, none⟩ := by unfold Addr.add; split <;> simp_all [Nat.add_assoc]
      rwa [e] at this
end
end Go.Proofs.YtlpjojegdnconaaDoor
