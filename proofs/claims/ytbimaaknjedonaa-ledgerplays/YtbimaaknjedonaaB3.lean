/- Slices of bytes, of pairs and of deeds that come in, opened. -/
import Derived.Test.YtbimaaknjedonaaB2
import Derived.Deep.Strs
import Derived.Deep.Slices
import Derived.Lib.SmallJoins
import Derived.ProofKit
import Derived.OpenShut
namespace Go.Proofs.Ytbimaaknjedonaa
open Go.ChangeShapes Go.WideShapes Go.ChangeAt Go.RowKit Go.Joins Go.Deep
set_option linter.unusedVariables false

theorem wf_u8 {n : Int} (h : (Lit.int .u8 n).wf = true) : 0 ≤ n ∧ n ≤ 255 := by
  have e1 : IntKind.u8.min = 0 := by decide
  have e2 : IntKind.u8.max = 255 := by decide
  simp [Lit.wf, e1, e2] at h
  omega

/-- A pair of small numbers that came in. -/
structure Pr where
  a : Int
  b : Int
  ha : 0 ≤ a ∧ a ≤ 255
  hb : 0 ≤ b ∧ b ≤ 255
instance : Inhabited Pr := ⟨⟨0, 0, by omega, by omega⟩⟩
def prCells (p : Pr) : List Value := [.int .u8 p.a, .int .u8 p.b]
/-- A byte that came in. -/
structure Bt where
  a : Int
  ha : 0 ≤ a ∧ a ≤ 255
instance : Inhabited Bt := ⟨⟨0, by omega⟩⟩
def btCells (p : Bt) : List Value := [.int .u8 p.a]
/-- A deed that came in. -/
structure Deed where
  o : Int
  i : Int
  e : Int
  p : Int
  ho : (Lit.int .i64 o).wf = true
  hi : (Lit.int .i64 i).wf = true
  he : (Lit.int .i64 e).wf = true
  hp : (Lit.int .i64 p).wf = true
instance : Inhabited Deed := ⟨⟨0, 0, 0, 0, by decide, by decide, by decide, by decide⟩⟩
def deedCells (d : Deed) : List Value := [.int .i64 d.o, .int .i64 d.i, .int .i64 d.e, .int .i64 d.p]

section
variable {H : Type} {enc : TypeId × Value → H} {P : Program} {w : World}

theorem list_two {α : Type} {l : List α} (h : l.length = 2) : ∃ a b, l = [a, b] := by
  match l, h with
  | [a, b], _ => exact ⟨a, b, rfl⟩
theorem list_three {α : Type} {l : List α} (h : l.length = 3) : ∃ a b c, l = [a, b, c] := by
  match l, h with
  | [a, b, c], _ => exact ⟨a, b, c, rfl⟩

theorem pr_of_trod {t e : TypeId} {n : Nat} {cs : List Value} {x : DataW H × List MemPlace} {base : Nat} {spare : Nat → Bool} {held : Bool} (ht : P.underlying t = some (.array 2 e)) (he : P.underlying e = some (.int .u8)) (hC : P.cellsOf t = 2) (hE : P.cellsOf e = 1)
    (hl : cs.length = P.cellsOf t) (h : DataW.trod enc P w base spare held n t cs = some x) : ∃ p : Pr, cs = prCells p := by
  obtain ⟨c0, c1, rfl⟩ := list_two (hl.trans hC)
  obtain ⟨xs, m, _, hx, _, hl', hel⟩ := DataW.trod_array ht h
  obtain ⟨y0, y1, rfl⟩ := list_two hl'
  have e0 := hel 0 (by decide)
  have e1 := hel 1 (by decide)
  rw [hE] at e0 e1
  obtain ⟨x0, f0, g0, w0⟩ := DataW.trod_int he (show DataW.trod enc P w base spare held m e [c0] = some y0 from by simpa using e0)
  obtain ⟨x1, f1, g1, w1⟩ := DataW.trod_int he (show DataW.trod enc P w base spare held m e [c1] = some y1 from by simpa using e1)
  simp at f0 f1
  subst f0 f1
  exact ⟨⟨x0, x1, wf_u8 w0, wf_u8 w1⟩, rfl⟩

theorem bt_of_trod {e : TypeId} {n : Nat} {cs : List Value} {x : DataW H × List MemPlace} {base : Nat} {spare : Nat → Bool} {held : Bool} (he : P.underlying e = some (.int .u8)) (hE : P.cellsOf e = 1)
    (hl : cs.length = P.cellsOf e) (h : DataW.trod enc P w base spare held n e cs = some x) : ∃ p : Bt, cs = btCells p := by
  obtain ⟨c0, rfl⟩ : ∃ a, cs = [a] := List.length_eq_one_iff.1 (hl.trans hE)
  obtain ⟨x0, f0, g0, w0⟩ := DataW.trod_int he h
  simp at f0
  subst f0
  exact ⟨⟨x0, wf_u8 w0⟩, rfl⟩
theorem list_four {α : Type} {l : List α} (h : l.length = 4) : ∃ a b c d, l = [a, b, c, d] := by
  match l, h with
  | [a, b, c, d], _ => exact ⟨a, b, c, d, rfl⟩
theorem deed_of_trod {t : TypeId} {f0 f1 f2 f3 : Field} {n : Nat} {cs : List Value} {x : DataW H × List MemPlace} {base : Nat} {spare : Nat → Bool} {held : Bool} (hs : P.underlying t = some (.struct #[f0, f1, f2, f3])) (hone : oneCellFields P #[f0, f1, f2, f3] = true) (hC : P.cellsOf t = 4)
    (he0 : P.underlying f0.type = some (.int .i64)) (he1 : P.underlying f1.type = some (.int .i64)) (he2 : P.underlying f2.type = some (.int .i64)) (he3 : P.underlying f3.type = some (.int .i64))
    (h : DataW.trod enc P w base spare held n t cs = some x) : ∃ d : Deed, cs = deedCells d := by
  obtain ⟨y0, y1, y2, y3, m, hx, hl, h0, h1, h2, h3⟩ := trod_struct4 hs h
  obtain ⟨c0, c1, c2, c3, rfl⟩ := list_four (hl.trans hC)
  obtain ⟨o0, k0⟩ := hone_of hone 0 f0 rfl
  obtain ⟨o1, k1⟩ := hone_of hone 1 f1 rfl
  obtain ⟨o2, k2⟩ := hone_of hone 2 f2 rfl
  obtain ⟨o3, k3⟩ := hone_of hone 3 f3 rfl
  obtain ⟨x0, f0', _, w0⟩ := DataW.trod_int he0 h0
  obtain ⟨x1, f1', _, w1⟩ := DataW.trod_int he1 h1
  obtain ⟨x2, f2', _, w2⟩ := DataW.trod_int he2 h2
  obtain ⟨x3, f3', _, w3⟩ := DataW.trod_int he3 h3
  simp [o0, k0] at f0'
  simp [o1, k1] at f1'
  simp [o2, k2] at f2'
  simp [o3, k3] at f3'
  subst f0' f1' f2' f3'
  exact ⟨⟨x0, x1, x2, x3, w0, w1, w2, w3⟩, rfl⟩

/-- What a slice of elements of k cells that came in is: none, or their cells. -/
def ElemsIn {α : Type} (w : World) (k : Nat) (val : α → List Value) (a : Option Addr) (n : Nat) : Prop :=
  n = 0 ∨ ∃ (b off : Nat) (q : Nat → α), a = some ⟨b, off, none⟩ ∧ b < w.heap.size ∧ ∀ i, i < n → ∀ j, j < k → w.cell? ⟨b, off + i * k + j, none⟩ = (val (q i))[j]?

theorem open_elems {α : Type} [Inhabited α] {r : Reach} {b0 k : Nat} {st t : TypeId} {v : Value} {d : DataW H} {p : List MemPlace} (val : α → List Value) (hst : P.underlying st = some (.slice t)) (hC : P.cellsOf t = k) (hk : 0 < k) (hl : ∀ e, (val e).length = k)
    (hval : ∀ {n : Nat} {cs : List Value} {x : DataW H × List MemPlace} {base : Nat} {spare : Nat → Bool} {held : Bool}, cs.length = P.cellsOf t → DataW.trod enc P w base spare held n t cs = some x → ∃ e, cs = val e)
    (hv : Value.okWide P w r b0 st v) (h : DataW.Trod enc P w 0 (fun _ => true) true st v d p) :
    ∃ a n cap, v = .slice a n cap ∧ ElemsIn w k val a n := by
  obtain ⟨a0, n0, c0, rfl⟩ := okWide_slice hst hv
  refine ⟨a0, n0, c0, rfl, ?_⟩
  obtain ⟨fuel, hf⟩ := h
  rcases open_slice hst hf with ⟨hc, _⟩ | ⟨a, len, cap, m, n, D, Pl, hc, _, hl', hm, hmm, _, hel⟩
  · simp [Value.cells] at hc
    exact Or.inl hc.2.1
  · simp [Value.cells] at hc
    obtain ⟨rfl, rfl, rfl⟩ := hc
    rcases Nat.eq_zero_or_pos n0 with h0 | h0
    · exact Or.inl h0
    · refine Or.inr ?_
      have hm' : m = c0 := by simpa using hmm
      have each : ∀ i, i < n0 → ∃ e : α, ∀ j, j < k → w.cell? ((a.add (i * k)).add j) = (val e)[j]? := fun i hi => by
        obtain ⟨cs', h1, h2⟩ := hel i (by omega)
        obtain ⟨_, q2, q3⟩ := World.cells?_some h1
        obtain ⟨e, rfl⟩ := hval q2 h2
        rw [hC] at q3
        exact ⟨e, fun j hj => q3 j hj⟩
      obtain ⟨e0, g0⟩ := each 0 h0
      have hg := g0 0 hk
      rw [List.getElem?_eq_getElem (by rw [hl]; exact hk)] at hg
      have hsp : a.spot = none := World.cell?_spot (by simpa [Addr.add] using hg)
      have hlt : a.block < w.heap.size := by
        have := cell_lt hg
        simpa [Addr.add] using this
      obtain ⟨b, off, sp⟩ := a
      simp only at hsp hlt
      subst hsp
      obtain ⟨f, hf'⟩ := choose_lt (α := α) each
      refine ⟨b, off, f, rfl, hlt, fun i hi j hj => ?_⟩
      have := hf' i hi j hj
      rw [add_add] at this
      have e : (⟨b, off, none⟩ : Addr).add (i * k + j) = ⟨b, off + i * k + j, none⟩ := by unfold Addr.add; split <;> simp_all [Nat.add_assoc]
      rwa [e] at this
end
end Go.Proofs.Ytbimaaknjedonaa
