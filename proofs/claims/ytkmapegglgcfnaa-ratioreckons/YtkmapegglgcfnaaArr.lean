/- An array of two numbers that comes in by value: opened and shut; what a call that lays new blocks alone leaves of an old cell. -/
import Derived.Test.YtkmapegglgcfnaaW5
import Derived.ProofKit
import Derived.OpenShut
import Derived.Lib.SmallJoins
namespace Go.Proofs.Ytkmapegglgcfnaa
open Go.ChangeShapes Go.WideShapes Go.ChangeAt Go.RowKit Go.Joins
set_option linter.unusedVariables false

theorem grown_cell {w w' : World} (h : Grown w w') {b o : Nat} {v : Value} (hc : w.cell? ⟨b, o, none⟩ = some v) : w'.cell? ⟨b, o, none⟩ = some v := by
  have hb : b < w.heap.size := by
    by_cases hlt : b < w.heap.size
    · exact hlt
    · have hn : w.heap[b]? = none := Array.getElem?_eq_none (by omega)
      simp [World.cell?, hn] at hc
  rw [h.1.cell hb (fun f => f)]
  exact hc

theorem cmpI_neg (p q : Int) : cmpI (-p) (-q) = -cmpI p q := by
  unfold cmpI; split <;> split <;> (try split) <;> (try split) <;> omega

/-- Cross, beside a box of two cells that it leaves alone. -/
theorem cross_keep (a b c d : Int) (w wo : World) (k : Nat) (u v : Value) (h0 : -9223372036854775808 ≤ a) (h1 : a ≤ 9223372036854775807) (h2 : -9223372036854775808 ≤ b) (h3 : b ≤ 9223372036854775807) (h4 : -9223372036854775808 ≤ c) (h5 : c ≤ 9223372036854775807) (h6 : -9223372036854775808 ≤ d) (h7 : d ≤ 9223372036854775807)
    (hu : w.cell? ⟨k, 0, none⟩ = some u) (hv : w.cell? ⟨k, 1, none⟩ = some v) (ho : Grown wo w) :
    Calls Try.prog 21 #[.int .i64 a, .int .i64 b, .int .i64 c, .int .i64 d] w fun e w' => e = .returned (.int .i64 (cmpI (a * b) (c * d))) ∧ w'.cell? ⟨k, 0, none⟩ = some u ∧ w'.cell? ⟨k, 1, none⟩ = some v ∧ Grown wo w' :=
  (cross_any a b c d w h0 h1 h2 h3 h4 h5 h6 h7).mono fun e w' ⟨he, hg⟩ => ⟨he, grown_cell hg hu, grown_cell hg hv, grown_trans ho hg⟩

section
variable {H : Type} {enc : TypeId × Value → H} {P : Program} {w : World} {base : Nat} {spare : Nat → Bool} {held : Bool}

theorem list_two {α : Type} {l : List α} (h : l.length = 2) : ∃ a b, l = [a, b] := by
  match l, h with
  | [a, b], _ => exact ⟨a, b, rfl⟩

theorem open_two {r : Reach} {b0 : Nat} {t e : TypeId} {k : IntKind} {v : Value} {d : DataW H} {p : List MemPlace} (ht : P.underlying t = some (.array 2 e)) (he : P.underlying e = some (.int k)) (hC : P.cellsOf t = 2) (hE : P.cellsOf e = 1)
    (hv : Value.okWide P w r b0 t v) (h : DataW.Trod enc P w base spare held t v d p) :
    ∃ x0 x1 : Int, v = .agg #[.int k x0, .int k x1] ∧ d = .agg [.lit (.int k x0), .lit (.int k x1)] ∧ p = [] ∧ (Lit.int k x0).wf = true ∧ (Lit.int k x1).wf = true := by
  obtain ⟨cs, rfl, hsz⟩ : ∃ cs, v = .agg cs ∧ cs.size = P.cellsOf t := by
    simp only [Value.okWide, ht] at hv
    obtain ⟨cs, h1, h2, _⟩ := hv
    exact ⟨cs, h1, h2⟩
  obtain ⟨c0, c1, rfl⟩ := array2 (hsz.trans hC)
  obtain ⟨fuel, hf⟩ := h
  obtain ⟨xs, m, _, hx, _, hl, hel⟩ := DataW.trod_array ht hf
  obtain ⟨y0, y1, rfl⟩ := list_two hl
  have e0 := hel 0 (by decide)
  have e1 := hel 1 (by decide)
  rw [hE] at e0 e1
  obtain ⟨x0, f0, g0, w0⟩ := DataW.trod_int he (show DataW.trod enc P w base spare held m e [c0] = some y0 from by simpa [Value.cells] using e0)
  obtain ⟨x1, f1, g1, w1⟩ := DataW.trod_int he (show DataW.trod enc P w base spare held m e [c1] = some y1 from by simpa [Value.cells] using e1)
  simp at f0 f1
  subst f0 f1 g0 g1
  simp at hx
  exact ⟨x0, x1, rfl, hx.1, hx.2, w0, w1⟩

theorem shut_two {t e : TypeId} {k : IntKind} {x0 x1 : Int} (ht : P.underlying t = some (.array 2 e)) (he : P.underlying e = some (.int k)) (hC : P.cellsOf t = 2) (hE : P.cellsOf e = 1) (w0 : (Lit.int k x0).wf = true) (w1 : (Lit.int k x1).wf = true) :
    DataW.Trod enc P w base spare held t (.agg #[.int k x0, .int k x1]) (.agg [.lit (.int k x0), .lit (.int k x1)]) [] :=
  ⟨2, by simp [DataW.trod, Value.cells, ht, he, hC, hE, w0, w1, show List.range 2 = [0, 1] from rfl]⟩
end
end Go.Proofs.Ytkmapegglgcfnaa
