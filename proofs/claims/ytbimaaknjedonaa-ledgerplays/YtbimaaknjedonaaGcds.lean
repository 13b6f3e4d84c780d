/- Plain facts on what divides both: times a number, changed places, with nought; the least multiple. -/
import Derived.Test.YtbimaaknjedonaaW5
namespace Go.Proofs.Ytbimaaknjedonaa
set_option linter.unusedVariables false

theorem gcd_le {a b : Int} {B : Nat} (ha : a.natAbs ≤ B) (hb : b.natAbs ≤ B) : Int.gcd a b ≤ B := by
  unfold Int.gcd
  by_cases h : a.natAbs = 0
  · rw [h, Nat.gcd_zero_left]; exact hb
  · exact Nat.le_trans (Nat.gcd_le_left _ (Nat.pos_of_ne_zero h)) ha
theorem gcdV_eq {a b : Int} (ha : a.natAbs ≤ 9223372036854775807) (hb : b.natAbs ≤ 9223372036854775807) : gcdV a b = Int.gcd a b := by
  have h := gcd_le ha hb
  unfold gcdV
  rw [if_pos (by omega)]
theorem gcdV_comm (a b : Int) : gcdV b a = gcdV a b := by unfold gcdV; rw [Int.gcd_comm]
theorem gcdV_zero {a : Int} (h0 : -9223372036854775807 ≤ a) (h1 : a ≤ 9223372036854775807) : gcdV a 0 = a.natAbs := by
  rw [gcdV_eq (by omega) (by simp), Int.gcd_zero]
theorem gcdV_mul {a b n : Int} (ha : a.natAbs ≤ 9223372036854775807) (hb : b.natAbs ≤ 9223372036854775807) (hn : 0 ≤ n) (han : (a * n).natAbs ≤ 9223372036854775807) (hbn : (b * n).natAbs ≤ 9223372036854775807) : gcdV (a * n) (b * n) = gcdV a b * n := by
  rw [gcdV_eq ha hb, gcdV_eq han hbn, Int.gcd_mul_right, Int.natCast_mul]
  congr 1
  omega
theorem prod_bd {x n : Int} {X N : Nat} (hx : x.natAbs ≤ X) (hn : n.natAbs ≤ N) : (x * n).natAbs ≤ X * N := by
  rw [Int.natAbs_mul]; exact Nat.mul_le_mul hx hn
/-- The least multiple of two numbers above nought. -/
theorem lcm_facts {x y : Int} (hx : 1 ≤ x) (hx1 : x ≤ 2147483647) (hy : 1 ≤ y) (hy1 : y ≤ 2147483647) :
    1 ≤ gcdV x y ∧ gcdV x y ≤ x ∧ 1 ≤ x / gcdV x y * y ∧ x / gcdV x y * y ≤ 4611686014132420609 ∧ (x / gcdV x y * y) % x = 0 ∧ (x / gcdV x y * y) % y = 0 ∧ x / gcdV x y * y / x * gcdV x y = y := by
  obtain ⟨e, h1, h2⟩ := gcd_pos_bd (b := y) hx (by omega)
  obtain ⟨m, hm⟩ : (gcdV x y) ∣ x := by rw [e]; exact Int.gcd_dvd_left ..
  obtain ⟨n, hn⟩ : (gcdV x y) ∣ y := by rw [e]; exact Int.gcd_dvd_right ..
  generalize gcdV x y = g at *
  have eq : x / g = m := by rw [hm]; exact Int.mul_ediv_cancel_left _ (by omega)
  rw [eq]
  have hm1 : 1 ≤ m := by rw [← eq]; exact Int.le_ediv_of_mul_le (by omega) (by omega)
  have hm2 : m ≤ x := by rw [← eq]; exact Int.ediv_le_self _ (by omega)
  have hmn : m * y = x * n := by rw [hn, ← Int.mul_assoc, Int.mul_comm m g, ← hm]
  have hb := Nat.mul_le_mul (show m.natAbs ≤ 2147483647 by omega) (show y.natAbs ≤ 2147483647 by omega)
  rw [← Int.natAbs_mul] at hb
  have hpos : 1 ≤ m * y := by
    have : 0 < m * y := Int.mul_pos (by omega) (by omega)
    omega
  refine ⟨h1, h2, hpos, by omega, by rw [hmn]; exact Int.mul_emod_right x n, Int.mul_emod_left m y, ?_⟩
  rw [hmn, Int.mul_ediv_cancel_left _ (by omega), hn, Int.mul_comm]
end Go.Proofs.Ytbimaaknjedonaa
