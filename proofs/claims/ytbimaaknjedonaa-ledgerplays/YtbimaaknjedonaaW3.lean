/- Contracts of Floor and Ceil. -/
import Derived.Test.YtbimaaknjedonaaW1
namespace Go.Proofs.Ytbimaaknjedonaa
open Go.RowKit
set_option linter.unusedVariables false

/-- Rounded down, rounded up, by what is rounded towards nought and what is left. -/
def flo (a b : Int) : Int := if a.tmod b ≠ 0 ∧ (decide (a < 0) ≠ decide (b < 0)) then a.tdiv b - 1 else a.tdiv b
def cei (a b : Int) : Int := if a.tmod b ≠ 0 ∧ (decide (a < 0) = decide (b < 0)) then a.tdiv b + 1 else a.tdiv b

theorem tdiv_rest_bd {a b : Int} (h0 : -9223372036854775808 ≤ a) (h1 : a ≤ 9223372036854775807) (hb : b ≠ 0) (hr : a.tmod b ≠ 0) : -4611686018427387904 ≤ a.tdiv b ∧ a.tdiv b ≤ 4611686018427387904 := by
  have b1 : b ≠ 1 := by rintro rfl; simp at hr
  have b2 : b ≠ -1 := by rintro rfl; simp [Int.tmod_neg] at hr
  have hn : 2 ≤ b.natAbs := by omega
  have hq : (a.tdiv b).natAbs = a.natAbs / b.natAbs := Int.natAbs_tdiv a b
  have h2 : a.natAbs / b.natAbs ≤ a.natAbs / 2 := Nat.div_le_div_left hn (by omega)
  omega

theorem two_back {a b c d : Int} {w w' : World} (h : a = b) (g : c = d) (hw : w' = w) : Ending.returned (.tuple #[.int .i64 a, .int .i64 c]) = .returned (.tuple #[.int .i64 b, .int .i64 d]) ∧ w' = w := ⟨by rw [h, g], hw⟩

end Go.Proofs.Ytbimaaknjedonaa
