/- Plain facts on rounding down and up, with signs turned; their bounds. -/
import Derived.Test.YtbimaaknjedonaaW3
namespace Go.Proofs.Ytbimaaknjedonaa
set_option linter.unusedVariables false

theorem ne_of_rest {a b : Int} (h : a.tmod b ≠ 0) : a ≠ 0 := by rintro rfl; simp at h
theorem flo_neg_neg {a b : Int} (hb : b ≠ 0) : flo (-a) (-b) = flo a b := by
  unfold flo
  rw [Int.neg_tmod, Int.tmod_neg, Int.neg_tdiv, Int.tdiv_neg, Int.neg_neg]
  by_cases h : a.tmod b = 0
  · rw [if_neg (by simp [h]), if_neg (by simp [h])]
  · have ha := ne_of_rest h
    have e1 : decide (-a < 0) = !decide (a < 0) := by rw [Bool.eq_iff_iff]; simp; omega
    have e2 : decide (-b < 0) = !decide (b < 0) := by rw [Bool.eq_iff_iff]; simp; omega
    rw [e1, e2]
    cases decide (a < 0) <;> cases decide (b < 0) <;> simp
theorem cei_neg {a b : Int} (hb : b ≠ 0) : cei (-a) b = -flo a b := by
  unfold flo cei
  rw [Int.neg_tmod, Int.neg_tdiv]
  by_cases h : a.tmod b = 0
  · rw [if_neg (by simp [h]), if_neg (by simp [h])]
  · have ha := ne_of_rest h
    have e1 : decide (-a < 0) = !decide (a < 0) := by rw [Bool.eq_iff_iff]; simp; omega
    rw [e1]
    cases decide (a < 0) <;> cases decide (b < 0) <;> simp [h] <;> omega
theorem flo_neg {a b : Int} (hb : b ≠ 0) : flo a (-b) = -cei a b := by
  unfold flo cei
  rw [Int.tmod_neg, Int.tdiv_neg]
  by_cases h : a.tmod b = 0
  · rw [if_neg (by simp [h]), if_neg (by simp [h])]
  · have e2 : decide (-b < 0) = !decide (b < 0) := by rw [Bool.eq_iff_iff]; simp; omega
    rw [e2]
    cases decide (a < 0) <;> cases decide (b < 0) <;> simp [h] <;> omega
theorem flo_bd {a b : Int} (h0 : -9223372036854775808 ≤ a) (h1 : a ≤ 9223372036854775807) (hb : b ≠ 0) (hab : a ≠ -9223372036854775808 ∨ b ≠ -1) : -9223372036854775808 ≤ flo a b ∧ flo a b ≤ 9223372036854775807 := by
  have bd := tdiv_bd h0 h1 hb hab
  unfold flo
  split
  · rename_i h
    have := tdiv_rest_bd h0 h1 hb h.1
    omega
  · exact bd
theorem cei_bd {a b : Int} (h0 : -9223372036854775808 ≤ a) (h1 : a ≤ 9223372036854775807) (hb : b ≠ 0) (hab : a ≠ -9223372036854775808 ∨ b ≠ -1) : -9223372036854775808 ≤ cei a b ∧ cei a b ≤ 9223372036854775807 := by
  have bd := tdiv_bd h0 h1 hb hab
  unfold cei
  split
  · rename_i h
    have := tdiv_rest_bd h0 h1 hb h.1
    omega
  · exact bd
/-- Where a is not the least number, its quotients are not, either. -/
theorem tdiv_bd1 {a b : Int} (h0 : -9223372036854775807 ≤ a) (h1 : a ≤ 9223372036854775807) : -9223372036854775807 ≤ a.tdiv b ∧ a.tdiv b ≤ 9223372036854775807 := by
  have h := Int.natAbs_tdiv_le_natAbs a b
  omega
theorem flo_bd1 {a b : Int} (h0 : -9223372036854775807 ≤ a) (h1 : a ≤ 9223372036854775807) (hb : b ≠ 0) : -9223372036854775807 ≤ flo a b ∧ flo a b ≤ 9223372036854775807 := by
  have bd := tdiv_bd1 (b := b) h0 h1
  unfold flo
  split
  · rename_i h
    have := tdiv_rest_bd (by omega) h1 hb h.1
    omega
  · exact bd
theorem cei_bd1 {a b : Int} (h0 : -9223372036854775807 ≤ a) (h1 : a ≤ 9223372036854775807) (hb : b ≠ 0) : -9223372036854775807 ≤ cei a b ∧ cei a b ≤ 9223372036854775807 := by
  have bd := tdiv_bd1 (b := b) h0 h1
  unfold cei
  split
  · rename_i h
    have := tdiv_rest_bd (by omega) h1 hb h.1
    omega
  · exact bd
end Go.Proofs.Ytbimaaknjedonaa
