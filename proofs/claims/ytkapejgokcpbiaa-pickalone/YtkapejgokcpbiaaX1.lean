/- Values that come in, opened: arrays of two numbers, slices of tasks. -/
import Derived.Test.YtkapejgokcpbiaaU3
import Derived.Deep.Strs
import Derived.Deep.Slices
import Derived.Lib.SmallJoins
import Derived.ProofKit
import Derived.OpenShut
namespace Go.Proofs.Ytkapejgokcpbiaa
open Go.ChangeShapes Go.WideShapes Go.ChangeAt Go.RowKit Go.Joins Go.Deep
set_option linter.unusedVariables false
set_option maxRecDepth 100000

theorem u8_nat {n : Int} (h : (Lit.int .u8 n).wf = true) : ∃ m : Nat, n = m ∧ m < 256 := by
  have : 0 ≤ n ∧ n ≤ 255 := by
    have e1 : IntKind.u8.min = 0 := by decide
    have e2 : IntKind.u8.max = 255 := by decide
    simp [Lit.wf, e1, e2] at h
    omega
  exact ⟨n.toNat, by omega, by omega⟩
section
variable {H : Type} {enc : TypeId × Value → H} {P : Program} {w : World} {base : Nat} {spare : Nat → Bool} {held : Bool}
theorem list_two {α : Type} {l : List α} (h : l.length = 2) : ∃ a b, l = [a, b] := by
  match l, h with
  | [a, b], _ => exact ⟨a, b, rfl⟩
theorem open_two {r : Reach} {b0 : Nat} {t e : TypeId} {k : IntKind} {v : Value} {d : DataW H} {p : List MemPlace} (ht : P.underlying t = some (.array 2 e)) (he : P.underlying e = some (.int k)) (hC : P.cellsOf t = 2) (hE : P.cellsOf e = 1)
    (hv : Value.okWide P w r b0 t v) (h : DataW.Trod enc P w base spare held t v d p) :
    ∃ x0 x1 : Int, v = .agg #[.int k x0, .int k x1] ∧ d = .agg [.lit (.int k x0), .lit (.int k x1)] ∧ p = [] ∧ (Lit.int k x0).wf = true ∧ (Lit.int k x1).wf = true := by
  obtain ⟨cs, rfl, hsz⟩ : ∃ cs, v = .agg cs ∧ cs.size = P.cellsOf t := by
    simp only [Value.okWide, ht] at hv
    obtain ⟨cs, h1, h2, _⟩ := hv
    exact ⟨cs, h1, h2⟩
  obtain ⟨c0, c1, rfl⟩ := array2 (hsz.trans hC)
  obtain ⟨fuel, hf⟩ := h
  obtain ⟨xs, m, _, hx, _, hl, hel⟩ := DataW.trod_array ht hf
  obtain ⟨y0, y1, rfl⟩ := list_two hl
  have e0 := hel 0 (by decide)
  have e1 := hel 1 (by decide)
  rw [hE] at e0 e1
  obtain ⟨x0, f0, g0, w0⟩ := DataW.trod_int he (show DataW.trod enc P w base spare held m e [c0] = some y0 from by simpa [Value.cells] using e0)
  obtain ⟨x1, f1, g1, w1⟩ := DataW.trod_int he (show DataW.trod enc P w base spare held m e [c1] = some y1 from by simpa [Value.cells] using e1)
  simp at f0 f1
  subst f0 f1 g0 g1
  simp at hx
  exact ⟨x0, x1, rfl, hx.1, hx.2, w0, w1⟩

theorem shut_two {t e : TypeId} {k : IntKind} {x0 x1 : Int} (ht : P.underlying t = some (.array 2 e)) (he : P.underlying e = some (.int k)) (hC : P.cellsOf t = 2) (hE : P.cellsOf e = 1) (w0 : (Lit.int k x0).wf = true) (w1 : (Lit.int k x1).wf = true) :
    DataW.Trod enc P w base spare held t (.agg #[.int k x0, .int k x1]) (.agg [.lit (.int k x0), .lit (.int k x1)]) [] :=
  ⟨2, by simp [DataW.trod, Value.cells, ht, he, hC, hE, w0, w1, show List.range 2 = [0, 1] from rfl]⟩
end

/-- A task that came in. -/
structure Ti where
  x : Tk
  hi : (Lit.int .i64 x.id).wf = true
  hr : (Lit.int .i64 x.r).wf = true
  hg : (Lit.int .i64 x.g).wf = true
instance : Inhabited Ti := ⟨⟨default, by decide, by decide, by decide⟩⟩
def tiCells (y : Ti) : List Value := tkCells y.x
section
variable {H : Type} {enc : TypeId × Value → H} {P : Program} {w : World}
theorem list_eleven {α : Type} {l : List α} (h : l.length = 11) : ∃ a b c d e f g i j k m, l = [a, b, c, d, e, f, g, i, j, k, m] := by
  match l, h with
  | [a, b, c, d, e, f, g, i, j, k, m], _ => exact ⟨a, b, c, d, e, f, g, i, j, k, m, rfl⟩
theorem cells26 : Try.prog.cellsOf 26 = 11 := by kernel_rfl
theorem cells3 : Try.prog.cellsOf 3 = 1 := by kernel_rfl
theorem cells4 : Try.prog.cellsOf 4 = 1 := by kernel_rfl
theorem cells5 : Try.prog.cellsOf 5 = 1 := by kernel_rfl
theorem cells23 : Try.prog.cellsOf 23 = 2 := by kernel_rfl
theorem cells43 : Try.prog.cellsOf 43 = 2 := by kernel_rfl
theorem ti_of_trod {n : Nat} {cs : List Value} {x : DataW H × List MemPlace} {base : Nat} {spare : Nat → Bool} {held : Bool} (hl : cs.length = Try.prog.cellsOf 26) (h : DataW.trod enc Try.prog w base spare held n 26 cs = some x) : ∃ p : Ti, cs = tiCells p := by
  obtain ⟨c0, c1, c2, c3, c4, c5, c6, c7, c8, c9, c10, rfl⟩ := list_eleven (hl.trans cells26)
  obtain ⟨xs, m, _, hx, _, hl', hel⟩ := DataW.trod_struct Try.underlying26 h
  obtain ⟨y0, y1, y2, y3, y4, y5, y6, y7, y8, y9, y10, rfl⟩ := list_eleven hl'
  have e0 : DataW.trod enc Try.prog w base spare held m 3 [c0] = some y0 := by simpa [cells3, cells4] using hel 0 _ rfl
  have e1 : DataW.trod enc Try.prog w base spare held m 3 [c1] = some y1 := by simpa [cells3, cells4] using hel 1 _ rfl
  have e2 : DataW.trod enc Try.prog w base spare held m 3 [c2] = some y2 := by simpa [cells3, cells4] using hel 2 _ rfl
  have e3 : DataW.trod enc Try.prog w base spare held m 4 [c3] = some y3 := by simpa [cells3, cells4] using hel 3 _ rfl
  have e4 : DataW.trod enc Try.prog w base spare held m 4 [c4] = some y4 := by simpa [cells3, cells4] using hel 4 _ rfl
  have e5 : DataW.trod enc Try.prog w base spare held m 4 [c5] = some y5 := by simpa [cells3, cells4] using hel 5 _ rfl
  have e6 : DataW.trod enc Try.prog w base spare held m 4 [c6] = some y6 := by simpa [cells3, cells4] using hel 6 _ rfl
  have e7 : DataW.trod enc Try.prog w base spare held m 3 [c7] = some y7 := by simpa [cells3, cells4] using hel 7 _ rfl
  have e8 : DataW.trod enc Try.prog w base spare held m 3 [c8] = some y8 := by simpa [cells3, cells4] using hel 8 _ rfl
  have e9 : DataW.trod enc Try.prog w base spare held m 4 [c9] = some y9 := by simpa [cells3, cells4] using hel 9 _ rfl
  have e10 : DataW.trod enc Try.prog w base spare held m 3 [c10] = some y10 := by simpa [cells3, cells4] using hel 10 _ rfl
  obtain ⟨x0, f0, _, w0⟩ := DataW.trod_int Try.underlying3 e0
  obtain ⟨x1, f1, _, w1⟩ := DataW.trod_int Try.underlying3 e1
  obtain ⟨x2, f2, _, w2⟩ := DataW.trod_int Try.underlying3 e2
  obtain ⟨x3, f3, _⟩ := DataW.trod_bool Try.underlying4 e3
  obtain ⟨x4, f4, _⟩ := DataW.trod_bool Try.underlying4 e4
  obtain ⟨x5, f5, _⟩ := DataW.trod_bool Try.underlying4 e5
  obtain ⟨x6, f6, _⟩ := DataW.trod_bool Try.underlying4 e6
  obtain ⟨x7, f7, _, w7⟩ := DataW.trod_int Try.underlying3 e7
  obtain ⟨x8, f8, _, w8⟩ := DataW.trod_int Try.underlying3 e8
  obtain ⟨x9, f9, _⟩ := DataW.trod_bool Try.underlying4 e9
  obtain ⟨x10, f10, _, w10⟩ := DataW.trod_int Try.underlying3 e10
  simp only [List.cons.injEq, and_true] at f0 f1 f2 f3 f4 f5 f6 f7 f8 f9 f10
  subst f0 f1 f2 f3 f4 f5 f6 f7 f8 f9 f10
  exact ⟨⟨⟨x0, x1, x2, x3, x4, x5, x6, x7, x8, x9, x10⟩, w0, w7, w8⟩, rfl⟩

/-- What a slice of elements of k cells that came in is: none, or their cells. -/
def ElemsIn {α : Type} (w : World) (k : Nat) (val : α → List Value) (a : Option Addr) (n : Nat) : Prop :=
  n = 0 ∨ ∃ (b off : Nat) (q : Nat → α), a = some ⟨b, off, none⟩ ∧ b < w.heap.size ∧ ∀ i, i < n → ∀ j, j < k → w.cell? ⟨b, off + i * k + j, none⟩ = (val (q i))[j]?

theorem open_elems {α : Type} [Inhabited α] {r : Reach} {b0 k : Nat} {st t : TypeId} {v : Value} {d : DataW H} {p : List MemPlace} (val : α → List Value) (hst : P.underlying st = some (.slice t)) (hC : P.cellsOf t = k) (hk : 0 < k) (hl : ∀ e, (val e).length = k)
    (hval : ∀ {n : Nat} {cs : List Value} {x : DataW H × List MemPlace} {base : Nat} {spare : Nat → Bool} {held : Bool}, cs.length = P.cellsOf t → DataW.trod enc P w base spare held n t cs = some x → ∃ e, cs = val e)
    (hv : Value.okWide P w r b0 st v) (h : DataW.Trod enc P w 0 (fun _ => true) true st v d p) :
    ∃ a n cap, v = .slice a n cap ∧ ElemsIn w k val a n := by
  obtain ⟨a0, n0, c0, rfl⟩ := okWide_slice hst hv
  refine ⟨a0, n0, c0, rfl, ?_⟩
  obtain ⟨fuel, hf⟩ := h
  rcases open_slice hst hf with ⟨hc, _⟩ | ⟨a, len, cap, m, n, D, Pl, hc, _, hl', hm, hmm, _, hel⟩
  · simp [Value.cells] at hc
    exact Or.inl hc.2.1
  · simp [Value.cells] at hc
    obtain ⟨rfl, rfl, rfl⟩ := hc
    rcases Nat.eq_zero_or_pos n0 with h0 | h0
    · exact Or.inl h0
    · refine Or.inr ?_
      have hm' : m = c0 := by simpa using hmm
      have each : ∀ i, i < n0 → ∃ e : α, ∀ j, j < k → w.cell? ((a.add (i * k)).add j) = (val e)[j]? := fun i hi => by
        obtain ⟨cs', h1, h2⟩ := hel i (by omega)
        obtain ⟨_, q2, q3⟩ := World.cells?_some h1
        obtain ⟨e, rfl⟩ := hval q2 h2
        rw [hC] at q3
        exact ⟨e, fun j hj => q3 j hj⟩
      obtain ⟨e0, g0⟩ := each 0 h0
      have hg := g0 0 hk
      rw [List.getElem?_eq_getElem (by rw [hl]; exact hk)] at hg
      have hsp : a.spot = none := World.cell?_spot (by simpa [Addr.add] using hg)
      have hlt : a.block < w.heap.size := by
        have := lt_of_cell hg
        simpa [Addr.add] using this
      obtain ⟨b, off, sp⟩ := a
      simp only at hsp hlt
      subst hsp
      obtain ⟨f, hf'⟩ := choose_lt (α := α) each
      refine ⟨b, off, f, rfl, hlt, fun i hi j hj => ?_⟩
      have := hf' i hi j hj
      rw [add_add] at this
      have e : (⟨b, off, none⟩ : Addr).add (i * k + j) = ⟨b, off + i * k + j, none⟩ := by unfold Addr.add; split <;> simp_all [Nat.add_assoc]
      rwa [e] at this
end
theorem wf64 {n : Int} (h : (Lit.int .i64 n).wf = true) : -9223372036854775808 ≤ n ∧ n ≤ 9223372036854775807 := by
  have hmin : IntKind.i64.min = -9223372036854775808 := rfl
  have hmax : IntKind.i64.max = 9223372036854775807 := rfl
  simp only [Lit.wf, Bool.and_eq_true, decide_eq_true_eq] at h
  omega
/-- What of a task that came in is known. -/
structure TiOk (x : Tk) : Prop where
  hi : (Lit.int .i64 x.id).wf = true
  r : -9223372036854775808 ≤ x.r ∧ x.r ≤ 9223372036854775807
  g : -9223372036854775808 ≤ x.g ∧ x.g ≤ 9223372036854775807
theorem tsIn_of {w : World} {a : Option Addr} {n cap : Nat} (h : ElemsIn w 11 tiCells a n) : ∃ l : Nat → Tk, TsIn w (.slice a n cap) n l ∧ ∀ i, TiOk (l i) := by
  rcases h with e | ⟨b, off, q, rfl, hb, hc⟩
  · have d : TiOk (default : Tk) := ⟨by decide, by decide, by decide⟩
    exact ⟨fun _ => default, ⟨a, cap, rfl, .inl e⟩, fun i => d⟩
  · refine ⟨fun i => (q i).x, ⟨_, cap, rfl, .inr ⟨b, off, rfl, fun i hi j hj => (hc i hi j hj).trans (tkCells_at _ hj)⟩⟩, fun i => ⟨(q i).hi, wf64 (q i).hr, wf64 (q i).hg⟩⟩
end Go.Proofs.Ytkapejgokcpbiaa
