/- Plain facts on whole numbers that the walks of package whole lean on: products of 128 bits, in two halves; no Go in sight. -/
namespace Go.Proofs.Ytbimaaknjedonaa

/-- The high and the low half of a number of 128 bits in two's complement. -/
def hi (p : Int) : Int := p / 18446744073709551616
def lo (p : Int) : Int := p % 18446744073709551616

def Fit (x : Int) : Prop := -9223372036854775808 ≤ x ∧ x ≤ 9223372036854775807

theorem natAbs_bd {a : Int} (h0 : -9223372036854775808 ≤ a) (h1 : a ≤ 9223372036854775807) : a.natAbs ≤ 9223372036854775808 := by omega

theorem mul_bd {a b : Int} (h0 : -9223372036854775808 ≤ a) (h1 : a ≤ 9223372036854775807) (h2 : -9223372036854775808 ≤ b) (h3 : b ≤ 9223372036854775807) :
    -85070591730234615865843651857942052864 ≤ a * b ∧ a * b ≤ 85070591730234615865843651857942052864 := by
  have h := Nat.mul_le_mul (natAbs_bd h0 h1) (natAbs_bd h2 h3)
  rw [← Int.natAbs_mul] at h
  generalize a * b = p at *
  omega

theorem hi_bd {p : Int} (h : -85070591730234615865843651857942052864 ≤ p ∧ p ≤ 85070591730234615865843651857942052864) : -4611686018427387904 ≤ hi p ∧ hi p ≤ 4611686018427387904 := by
  unfold hi; omega
theorem lo_bd (p : Int) : 0 ≤ lo p ∧ lo p ≤ 18446744073709551615 := by
  unfold lo; omega

/-- The product of the two read without their signs, per sign. -/
theorem mulNN (a b : Int) : (a + 18446744073709551616) * (b + 18446744073709551616) = a * b + 18446744073709551616 * b + 18446744073709551616 * a + 340282366920938463463374607431768211456 := by
  rw [Int.add_mul, Int.mul_add, Int.mul_add, Int.mul_comm a 18446744073709551616]; omega
theorem mulNP (a b : Int) : (a + 18446744073709551616) * b = a * b + 18446744073709551616 * b := by
  rw [Int.add_mul]
theorem mulPN (a b : Int) : a * (b + 18446744073709551616) = a * b + 18446744073709551616 * a := by
  rw [Int.mul_add, Int.mul_comm a 18446744073709551616]

/-- Two numbers of 128 bits compare as their halves do. -/
theorem hi_lt {p q : Int} (h : hi p < hi q) : p < q := by unfold hi at h; omega
theorem lo_lt {p q : Int} (h : hi p = hi q) : (lo p < lo q ↔ p < q) ∧ (lo p = lo q ↔ p = q) := by
  unfold hi at h; unfold lo; omega

/-- How two products compare. -/
def cmpI (p q : Int) : Int := if p < q then -1 else if q < p then 1 else 0
theorem cmpI_lt {p q : Int} (h : p < q) : cmpI p q = -1 := by unfold cmpI; rw [if_pos h]
theorem cmpI_gt {p q : Int} (h : q < p) : cmpI p q = 1 := by unfold cmpI; rw [if_neg (by omega), if_pos h]
theorem cmpI_eq {p q : Int} (h : p = q) : cmpI p q = 0 := by unfold cmpI; rw [if_neg (by omega), if_neg (by omega)]
theorem cmpI_bd (p q : Int) : -1 ≤ cmpI p q ∧ cmpI p q ≤ 1 := by unfold cmpI; split <;> (try split) <;> omega
theorem cmpI_swap (p q : Int) : cmpI p q = -cmpI q p := by
  unfold cmpI; split <;> split <;> (try split) <;> omega

/-- A product fits 64 bits just if its high half repeats the sign of its low half. -/
theorem fit_hi {p : Int} : Fit p ↔ (hi p = if 9223372036854775808 ≤ lo p then -1 else 0) := by
  unfold Fit hi lo; split <;> omega

end Go.Proofs.Ytbimaaknjedonaa
