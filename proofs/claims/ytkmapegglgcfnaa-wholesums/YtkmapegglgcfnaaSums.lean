/- What the document's own sum and product answer, each in one; its Cross beside a box of two cells. -/
import Derived.Test.YtkmapegglgcfnaaW7
import Derived.Test.YtkmapegglgcfnaaLaws
import Derived.Test.YtkmapegglgcfnaaArr
namespace Go.Proofs.Ytkmapegglgcfnaa
open Go.RowKit
set_option linter.unusedVariables false

theorem radd_any (a b : Int) (w : World) (h0 : -9223372036854775808 ≤ a) (h1 : a ≤ 9223372036854775807) (h2 : -9223372036854775808 ≤ b) (h3 : b ≤ 9223372036854775807) :
    Calls Try.prog 18 #[.int .i64 a, .int .i64 b] w fun e w' => e = .returned (.tuple #[.int .i64 (outV (a + b)), .bool (FitB (a + b))]) ∧ w = w' := by
  cases h : FitB (a + b)
  · rw [(out_no h).1]
    have := fitB_false h
    unfold Fit at this
    exact radd_no a b w h0 h1 h2 h3 (by omega)
  · rw [(out_fit h).1]
    exact radd_ok a b w h0 h1 h2 h3 (fitB_true h).1 (fitB_true h).2
theorem rmul_any (a b : Int) (w : World) (h0 : -9223372036854775808 ≤ a) (h1 : a ≤ 9223372036854775807) (h2 : -9223372036854775808 ≤ b) (h3 : b ≤ 9223372036854775807) :
    Calls Try.prog 20 #[.int .i64 a, .int .i64 b] w fun e w' => e = .returned (.tuple #[.int .i64 (outV (a * b)), .bool (FitB (a * b))]) ∧ w = w' := by
  cases h : FitB (a * b)
  · rw [(out_no h).1]
    exact rmul_no a b w h0 h1 h2 h3 (fitB_false h)
  · rw [(out_fit h).1]
    exact rmul_ok a b w h0 h1 h2 h3 (fitB_true h)
theorem rcross_keep (a b c d : Int) (w wo : World) (k : Nat) (u v : Value) (h0 : -9223372036854775808 ≤ a) (h1 : a ≤ 9223372036854775807) (h2 : -9223372036854775808 ≤ b) (h3 : b ≤ 9223372036854775807) (h4 : -9223372036854775808 ≤ c) (h5 : c ≤ 9223372036854775807) (h6 : -9223372036854775808 ≤ d) (h7 : d ≤ 9223372036854775807)
    (hu : w.cell? ⟨k, 0, none⟩ = some u) (hv : w.cell? ⟨k, 1, none⟩ = some v) (ho : Grown wo w) :
    Calls Try.prog 22 #[.int .i64 a, .int .i64 b, .int .i64 c, .int .i64 d] w fun e w' => e = .returned (.int .i64 (cmpI (a * b) (c * d))) ∧ w'.cell? ⟨k, 0, none⟩ = some u ∧ w'.cell? ⟨k, 1, none⟩ = some v ∧ Grown wo w' :=
  (rcross_any a b c d w h0 h1 h2 h3 h4 h5 h6 h7).mono fun e w' ⟨he, hg⟩ => ⟨he, grown_cell hg hu, grown_cell hg hv, grown_trans ho hg⟩
end Go.Proofs.Ytkmapegglgcfnaa
