/- A struct of two numbers that comes in by value: opened and shut. -/
import Derived.Test.YtkmapegglgcfnaaArr
namespace Go.Proofs.Ytkmapegglgcfnaa
open Go.ChangeShapes Go.WideShapes Go.ChangeAt Go.RowKit Go.Joins Go.Deep
set_option linter.unusedVariables false

section
variable {H : Type} {enc : TypeId × Value → H} {P : Program} {w : World} {base : Nat} {spare : Nat → Bool} {held : Bool}

theorem open_pair {r : Reach} {b0 : Nat} {t : TypeId} {f0 f1 : Field} {k : IntKind} {v : Value} {d : DataW H} {p : List MemPlace} (hs : P.underlying t = some (.struct #[f0, f1])) (hone : oneCellFields P #[f0, f1] = true) (hC : P.cellsOf t = 2)
    (he0 : P.underlying f0.type = some (.int k)) (he1 : P.underlying f1.type = some (.int k)) (hv : Value.okWide P w r b0 t v) (h : DataW.Trod enc P w base spare held t v d p) :
    ∃ x0 x1 : Int, v = .agg #[.int k x0, .int k x1] ∧ d = .agg [.lit (.int k x0), .lit (.int k x1)] ∧ p = [] ∧ (Lit.int k x0).wf = true ∧ (Lit.int k x1).wf = true := by
  obtain ⟨v0, v1, y0, y1, n, rfl, rfl, rfl, t0, t1⟩ := open_agg2 hs hone hC hv h
  obtain ⟨x0, f0', g0, w0⟩ := DataW.trod_int he0 t0
  obtain ⟨x1, f1', g1, w1⟩ := DataW.trod_int he1 t1
  simp at f0' f1'
  subst f0' f1' g0 g1
  exact ⟨x0, x1, rfl, rfl, rfl, w0, w1⟩

theorem shut_pair {t : TypeId} {f0 f1 : Field} {k : IntKind} {x0 x1 : Int} (hs : P.underlying t = some (.struct #[f0, f1])) (hone : oneCellFields P #[f0, f1] = true) (hC : P.cellsOf t = 2)
    (he0 : P.underlying f0.type = some (.int k)) (he1 : P.underlying f1.type = some (.int k)) (w0 : (Lit.int k x0).wf = true) (w1 : (Lit.int k x1).wf = true) :
    DataW.Trod enc P w base spare held t (.agg #[.int k x0, .int k x1]) (.agg [.lit (.int k x0), .lit (.int k x1)]) [] :=
  shut_agg2 (y0 := (.lit (.int k x0), [])) (y1 := (.lit (.int k x1), [])) hs hone hC ⟨1, by simp [DataW.trod, he0, w0]⟩ ⟨1, by simp [DataW.trod, he1, w1]⟩
end
end Go.Proofs.Ytkmapegglgcfnaa
