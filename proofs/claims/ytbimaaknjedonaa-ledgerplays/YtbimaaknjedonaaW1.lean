/- Contracts of the leaves: size, Add, divide, bits.Mul64, product: what each call answers, whatever the world. -/
import Derived.Test.YtbimaaknjedonaaRows
import Derived.Test.YtbimaaknjedonaaPlain
import Derived.Test.YtbimaaknjedonaaShelf
import Derived.WalkKit
import Derived.WalkSpells
import Derived.WalkLawsBesides
import Derived.Lib.Hide
import Derived.IntWalk
namespace Go.Proofs.Ytbimaaknjedonaa
open Go.RowKit
set_option linter.unusedVariables false
theorem ret_int {k : IntKind} {a b : Int} (h : a = b) : Ending.returned (.int k a) = .returned (.int k b) := by rw [h]
theorem ret_two {k l : IntKind} {a b c d : Int} (h : a = b) (g : c = d) : Ending.returned (.tuple #[.int k a, .int l c]) = .returned (.tuple #[.int k b, .int l d]) := by rw [h, g]

set_option maxHeartbeats 400000 in
theorem size_any (a : Int) (w : World) (h0 : -9223372036854775808 ≤ a) (h1 : a ≤ 9223372036854775807) :
    Calls Try.prog 44 #[.int .i64 a] w fun e w' => e = .returned (.int .u64 (a.natAbs : Int)) ∧ w = w' := by
  by_cases c : a < 0
  all_goals
    go_enter Try.func44, Try.ntmps44
    go_wp2
    go_ret
  · exact ⟨ret_int (by first | (simp only [IntKind.wrap_u64]; omega) | omega), rfl⟩
  · exact ⟨ret_int (by omega), rfl⟩

theorem tdiv_bd {a b : Int} (h0 : -9223372036854775808 ≤ a) (h1 : a ≤ 9223372036854775807) (hb : b ≠ 0) (hab : a ≠ -9223372036854775808 ∨ b ≠ -1) : -9223372036854775808 ≤ a.tdiv b ∧ a.tdiv b ≤ 9223372036854775807 := by
  have h := Int.natAbs_tdiv_le_natAbs a b
  by_cases e : a = -9223372036854775808
  · have hb1 : b ≠ -1 := by omega
    subst e
    by_cases b1 : b = 1
    · subst b1; decide
    · have hn : 2 ≤ b.natAbs := by omega
      have hq : ((-9223372036854775808 : Int).tdiv b).natAbs = 9223372036854775808 / b.natAbs := by rw [Int.natAbs_tdiv]; rfl
      have : 9223372036854775808 / b.natAbs ≤ 9223372036854775808 / 2 := Nat.div_le_div_left hn (by omega)
      omega
  · omega

theorem mul64_any (x y : Int) (hx0 : 0 ≤ x) (hx : x < 18446744073709551616) (hy0 : 0 ≤ y) (hy : y < 18446744073709551616) (w : World) :
    Calls Try.prog 51 #[.int .u64 x, .int .u64 y] w fun e w' => e = .returned (.tuple #[.int .u64 (hi (x * y)), .int .u64 (lo (x * y))]) ∧ w = w' := by
  obtain ⟨m, rfl⟩ := Int.eq_ofNat_of_zero_le hx0
  obtain ⟨n, rfl⟩ := Int.eq_ofNat_of_zero_le hy0
  refine (Try.bits_Mul64 m n (by omega) (by omega) w).mono ?_
  rintro e w' ⟨rfl, hw⟩
  exact ⟨ret_two (by unfold hi; rw [← Int.natCast_mul]; omega) (by unfold lo; rw [← Int.natCast_mul]; omega), hw.symm⟩

theorem wrap_neg {a : Int} (h0 : -9223372036854775808 ≤ a) (c : a < 0) : IntKind.u64.wrap a = a + 18446744073709551616 := by rw [IntKind.wrap_u64]; omega
theorem wrap_pos {a : Int} (h1 : a ≤ 9223372036854775807) (c : ¬ a < 0) : IntKind.u64.wrap a = a := by rw [IntKind.wrap_u64]; omega

theorem ret_agg {k l : IntKind} {a b c d : Int} (h : a = b) (g : c = d) : Ending.returned (.agg #[.int k a, .int l c]) = .returned (.agg #[.int k b, .int l d]) := by rw [h, g]

theorem prodNN {a b : Int} (h0 : -9223372036854775808 ≤ a) (h1 : a ≤ 9223372036854775807) (h2 : -9223372036854775808 ≤ b) (h3 : b ≤ 9223372036854775807) (c1 : a < 0) (c2 : b < 0) :
    wrap64 (IntKind.u64.wrap (IntKind.u64.wrap (hi (IntKind.u64.wrap a * IntKind.u64.wrap b) - IntKind.u64.wrap b) - IntKind.u64.wrap a)) = hi (a * b) ∧ lo (IntKind.u64.wrap a * IntKind.u64.wrap b) = lo (a * b) := by
  have bd := hi_bd (mul_bd h0 h1 h2 h3)
  rw [wrap_neg h0 c1, wrap_neg h2 c2, mulNN]
  simp only [IntKind.wrap_u64, wrap64, hi, lo] at *
  generalize a * b = p at *
  omega
theorem prodNP {a b : Int} (h0 : -9223372036854775808 ≤ a) (h1 : a ≤ 9223372036854775807) (h2 : -9223372036854775808 ≤ b) (h3 : b ≤ 9223372036854775807) (c1 : a < 0) (c2 : 0 ≤ b) :
    wrap64 (IntKind.u64.wrap (hi (IntKind.u64.wrap a * b) - b)) = hi (a * b) ∧ lo (IntKind.u64.wrap a * b) = lo (a * b) := by
  have bd := hi_bd (mul_bd h0 h1 h2 h3)
  rw [wrap_neg h0 c1, mulNP]
  simp only [IntKind.wrap_u64, wrap64, hi, lo] at *
  generalize a * b = p at *
  omega
theorem prodPN {a b : Int} (h0 : -9223372036854775808 ≤ a) (h1 : a ≤ 9223372036854775807) (h2 : -9223372036854775808 ≤ b) (h3 : b ≤ 9223372036854775807) (c1 : 0 ≤ a) (c2 : b < 0) :
    wrap64 (IntKind.u64.wrap (hi (a * IntKind.u64.wrap b) - a)) = hi (a * b) ∧ lo (a * IntKind.u64.wrap b) = lo (a * b) := by
  have bd := hi_bd (mul_bd h0 h1 h2 h3)
  rw [wrap_neg h2 c2, mulPN]
  simp only [IntKind.wrap_u64, wrap64, hi, lo] at *
  generalize a * b = p at *
  omega
theorem prodPP {a b : Int} (h0 : -9223372036854775808 ≤ a) (h1 : a ≤ 9223372036854775807) (h2 : -9223372036854775808 ≤ b) (h3 : b ≤ 9223372036854775807) :
    wrap64 (hi (a * b)) = hi (a * b) := by
  have bd := hi_bd (mul_bd h0 h1 h2 h3)
  exact IntWalk.wrap64_in _ ⟨by omega, by omega⟩

set_option maxHeartbeats 400000 in
theorem product_any (a b : Int) (w : World) (h0 : -9223372036854775808 ≤ a) (h1 : a ≤ 9223372036854775807) (h2 : -9223372036854775808 ≤ b) (h3 : b ≤ 9223372036854775807) :
    Calls Try.prog 43 #[.int .i64 a, .int .i64 b] w fun e w' => e = .returned (.tuple #[.int .i64 (hi (a * b)), .int .u64 (lo (a * b))]) ∧ w = w' := by
  by_cases c1 : a < 0 <;> by_cases c2 : b < 0
  all_goals
    go_enter Try.func43, Try.ntmps43
    go_wp2_with fail
    refine (mul64_any _ _ (by first | (simp only [IntKind.wrap_u64]; omega) | omega) (by first | (simp only [IntKind.wrap_u64]; omega) | omega) (by first | (simp only [IntKind.wrap_u64]; omega) | omega) (by first | (simp only [IntKind.wrap_u64]; omega) | omega) _).mono ?_
    rintro e w' ⟨rfl, rfl⟩
    go_wp2
    go_ret2
  · exact ⟨ret_two (prodNN h0 h1 h2 h3 c1 c2).1 (prodNN h0 h1 h2 h3 c1 c2).2, rfl⟩
  · exact ⟨ret_two (prodNP h0 h1 h2 h3 c1 (by omega)).1 (prodNP h0 h1 h2 h3 c1 (by omega)).2, rfl⟩
  · exact ⟨ret_two (prodPN h0 h1 h2 h3 (by omega) c2).1 (prodPN h0 h1 h2 h3 (by omega) c2).2, rfl⟩
  · exact ⟨ret_two (prodPP h0 h1 h2 h3) rfl, rfl⟩

theorem grown_trans {a b c : World} (h : Grown a b) (k : Grown b c) : Grown a c :=
  ⟨World.keptBut_trans h.1 k.1, fun x => (k.2.1 x).trans (h.2.1 x), Nat.le_trans h.2.2 k.2.2⟩

end Go.Proofs.Ytbimaaknjedonaa
