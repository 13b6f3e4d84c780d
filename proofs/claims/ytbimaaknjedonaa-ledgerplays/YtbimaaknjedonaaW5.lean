/- Contracts of Lcm, and of the document's example (awake) that each law begins with. -/
import Derived.Test.YtbimaaknjedonaaW3
import Derived.Test.YtbimaaknjedonaaW4
namespace Go.Proofs.Ytbimaaknjedonaa
open Go.RowKit
set_option linter.unusedVariables false

theorem gcd_pos_bd {a b : Int} (ha : 1 ≤ a) (h1 : a ≤ 9223372036854775807) : gcdV a b = Int.gcd a b ∧ 1 ≤ gcdV a b ∧ gcdV a b ≤ a := by
  have hle : Int.gcd a b ≤ a.natAbs := Nat.gcd_le_left _ (by omega)
  have hpos : 0 < Int.gcd a b := Nat.gcd_pos_of_pos_left _ (by omega)
  have e : gcdV a b = Int.gcd a b := by unfold gcdV; rw [if_pos (by omega)]
  refine ⟨e, by omega, by omega⟩

theorem quo_bd {a g : Int} (ha : 1 ≤ a) (hg : 1 ≤ g) : 0 ≤ a / g ∧ a / g ≤ a :=
  ⟨Int.ediv_nonneg (by omega) (by omega), Int.ediv_le_self _ (by omega)⟩

set_option maxHeartbeats 400000 in
theorem lcm_arg (a b : Int) (w : World) (h : a < 1 ∨ b < 1) :
    Calls Try.prog 28 #[.int .i64 a, .int .i64 b] w fun e w' => e = .returned (.tuple #[.int .i64 0, .int .i64 2]) ∧ w = w' := by
  by_cases c : a < 1
  · have d : decide (a < 1) = true := by simp [c]
    clear h
    go_enter Try.func28, Try.ntmps28
    go_wp2
    go_ret2
    exact ⟨rfl, rfl⟩
  · have d : decide (a < 1) = false := by simp [c]
    have c2 : b < 1 := by omega
    have d2 : decide (b < 1) = true := by simp [c2]
    clear h
    go_enter Try.func28, Try.ntmps28
    go_wp2
    go_ret2
    exact ⟨rfl, rfl⟩

set_option maxHeartbeats 400000 in
theorem lcm_ok (a b : Int) (w : World) (h0 : 1 ≤ a) (h1 : a ≤ 9223372036854775807) (h2 : 1 ≤ b) (h3 : b ≤ 9223372036854775807) (hf : Fit (a / gcdV a b * b)) :
    Calls Try.prog 28 #[.int .i64 a, .int .i64 b] w fun e w' => e = .returned (.tuple #[.int .i64 (a / gcdV a b * b), .int .i64 0]) ∧ Grown w w' := by
  obtain ⟨-, hg1, hg2⟩ := gcd_pos_bd (b := b) h0 h1
  obtain ⟨hq0, hq1⟩ := quo_bd h0 hg1
  have d1 : decide (a < 1) = false := by simp; omega
  have d2 : decide (b < 1) = false := by simp; omega
  have HF := Lib.hid hf
  clear hf
  go_enter Try.func28, Try.ntmps28
  go_wp2_with fail
  refine (gcd_any _ _ _ (by omega) h1 (by omega) h3).mono ?_
  rintro e w1 ⟨rfl, hw1⟩
  go_wp2_with fail
  refine (mul_ok _ _ _ (by omega) (by omega) (by omega) h3 HF.out).mono ?_
  rintro e w2 ⟨rfl, hw2⟩
  go_wp2
  go_ret2
  exact ⟨rfl, grown_trans hw1 hw2⟩

set_option maxHeartbeats 400000 in
theorem lcm_no (a b : Int) (w : World) (h0 : 1 ≤ a) (h1 : a ≤ 9223372036854775807) (h2 : 1 ≤ b) (h3 : b ≤ 9223372036854775807) (hf : ¬ Fit (a / gcdV a b * b)) :
    Calls Try.prog 28 #[.int .i64 a, .int .i64 b] w fun e w' => e = .returned (.tuple #[.int .i64 0, .int .i64 14]) ∧ Grown w w' := by
  obtain ⟨-, hg1, hg2⟩ := gcd_pos_bd (b := b) h0 h1
  obtain ⟨hq0, hq1⟩ := quo_bd h0 hg1
  have d1 : decide (a < 1) = false := by simp; omega
  have d2 : decide (b < 1) = false := by simp; omega
  have HF := Lib.hid hf
  clear hf
  go_enter Try.func28, Try.ntmps28
  go_wp2_with fail
  refine (gcd_any _ _ _ (by omega) h1 (by omega) h3).mono ?_
  rintro e w1 ⟨rfl, hw1⟩
  go_wp2_with fail
  refine (mul_no _ _ _ (by omega) (by omega) (by omega) h3 HF.out).mono ?_
  rintro e w2 ⟨rfl, hw2⟩
  go_wp2
  go_ret2
  exact ⟨rfl, grown_trans hw1 hw2⟩

theorem lcm_at (a b v : Int) (w : World) (h0 : 1 ≤ a) (h1 : a ≤ 9223372036854775807) (h2 : 1 ≤ b) (h3 : b ≤ 9223372036854775807) (hv : a / gcdV a b * b = v) (hf : Fit v) :
    Calls Try.prog 28 #[.int .i64 a, .int .i64 b] w fun e w' => e = .returned (.tuple #[.int .i64 v, .int .i64 0]) ∧ Grown w w' := by
  rw [← hv]
  exact lcm_ok a b w h0 h1 h2 h3 (by rw [hv]; exact hf)
theorem cross_at (a b c d v : Int) (w : World) (h0 : -9223372036854775808 ≤ a) (h1 : a ≤ 9223372036854775807) (h2 : -9223372036854775808 ≤ b) (h3 : b ≤ 9223372036854775807) (h4 : -9223372036854775808 ≤ c) (h5 : c ≤ 9223372036854775807) (h6 : -9223372036854775808 ≤ d) (h7 : d ≤ 9223372036854775807) (hv : cmpI (a * b) (c * d) = v) :
    Calls Try.prog 37 #[.int .i64 a, .int .i64 b, .int .i64 c, .int .i64 d] w fun e w' => e = .returned (.int .i64 v) ∧ Grown w w' := by
  rw [← hv]
  exact cross_any a b c d w h0 h1 h2 h3 h4 h5 h6 h7
theorem mul_at (a b v : Int) (w : World) (h0 : -9223372036854775808 ≤ a) (h1 : a ≤ 9223372036854775807) (h2 : -9223372036854775808 ≤ b) (h3 : b ≤ 9223372036854775807) (hv : a * b = v) (hf : Fit v) :
    Calls Try.prog 34 #[.int .i64 a, .int .i64 b] w fun e w' => e = .returned (.tuple #[.int .i64 v, .int .i64 0]) ∧ Grown w w' := by
  rw [← hv]
  exact mul_ok a b w h0 h1 h2 h3 (by rw [hv]; exact hf)
theorem gcd_at (a b v : Int) (w : World) (h0 : -9223372036854775808 ≤ a) (h1 : a ≤ 9223372036854775807) (h2 : -9223372036854775808 ≤ b) (h3 : b ≤ 9223372036854775807) (hv : gcdV a b = v) :
    Calls Try.prog 35 #[.int .i64 a, .int .i64 b] w fun e w' => e = .returned (.int .i64 v) ∧ Grown w w' := by
  rw [← hv]
  exact gcd_any a b w h0 h1 h2 h3

theorem k_floor : flo (-7) 2 = -4 := by decide
theorem k_lcm : 4 / gcdV 4 6 * 6 = 12 := by decide
theorem k_cross : cmpI (4611686018427387904 * 4) (4611686018427387904 * 3) = 1 := cmpI_gt (by decide)
theorem k_mul : ¬ Fit (1099511627776 * 1099511627776) := by unfold Fit; omega
theorem k_fit : Fit 12 := by unfold Fit; omega

end Go.Proofs.Ytbimaaknjedonaa
