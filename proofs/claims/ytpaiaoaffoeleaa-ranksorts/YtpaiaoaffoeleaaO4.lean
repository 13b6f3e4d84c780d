/- The plain order of ranks is a strict weak order. -/
import Derived.Test.YtpaiaoaffoeleaaA4
import Derived.Sort.LotA
namespace Go.Proofs.Ytpaiaoaffoeleaa
open Go.RowKit Go.Sort
set_option linter.unusedVariables false

theorem less_iff (x y : Rk) : lessB x y = true ↔ x.d < y.d ∨ (x.d = y.d ∧ (y.b < x.b ∨ (x.b = y.b ∧ ((x.b = 1 ∧ y.g < x.g) ∨ ((x.b ≠ 1 ∨ x.g = y.g) ∧ x.i < y.i))))) := by
  unfold lessB
  split
  · simp; omega
  · split
    · simp; omega
    · split
      · simp; omega
      · simp; omega

theorem less_not (x y : Rk) : lessB x y = false ↔ ¬ (x.d < y.d ∨ (x.d = y.d ∧ (y.b < x.b ∨ (x.b = y.b ∧ ((x.b = 1 ∧ y.g < x.g) ∨ ((x.b ≠ 1 ∨ x.g = y.g) ∧ x.i < y.i)))))) := by
  rw [← less_iff]; simp

theorem swo_less : SWO lessB where
  irrefl x := by rw [less_not]; omega
  trans x y z a b := by rw [less_iff] at *; omega
  ntrans x y z a b := by rw [less_not] at *; omega

end Go.Proofs.Ytpaiaoaffoeleaa
