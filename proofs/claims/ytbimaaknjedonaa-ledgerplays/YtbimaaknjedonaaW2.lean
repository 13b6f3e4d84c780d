/- Contracts of Mul, cmp.Compare (both kinds) and Cross. -/
import Derived.Test.YtbimaaknjedonaaW1
namespace Go.Proofs.Ytbimaaknjedonaa
open Go.RowKit
set_option linter.unusedVariables false

theorem mul_test_ok {p : Int} (hf : Fit p) : (hi p != wrap64 (lo p) / 9223372036854775808) = false ∧ wrap64 (lo p) = p := by
  unfold Fit at hf
  simp only [bne_eq_false_iff_eq, hi, lo, wrap64]
  omega
theorem mul_test_no {p : Int} (hb : -85070591730234615865843651857942052864 ≤ p ∧ p ≤ 85070591730234615865843651857942052864) (hf : ¬ Fit p) : (hi p != wrap64 (lo p) / 9223372036854775808) = true := by
  unfold Fit at hf
  simp only [bne_iff_ne, ne_eq, hi, lo, wrap64]
  omega

set_option maxHeartbeats 400000 in
theorem mul_ok (a b : Int) (w : World) (h0 : -9223372036854775808 ≤ a) (h1 : a ≤ 9223372036854775807) (h2 : -9223372036854775808 ≤ b) (h3 : b ≤ 9223372036854775807) (hf : Fit (a * b)) :
    Calls Try.prog 34 #[.int .i64 a, .int .i64 b] w fun e w' => e = .returned (.tuple #[.int .i64 (a * b), .int .i64 0]) ∧ Grown w w' := by
  obtain ⟨ht, he⟩ := mul_test_ok hf
  have HE := Lib.hid he
  clear he
  go_enter Try.func34, Try.ntmps34
  go_wp2_with fail
  refine (product_any _ _ _ h0 h1 h2 h3).mono ?_
  rintro e w1 ⟨rfl, rfl⟩
  go_wp2
  go_ret2
  exact ⟨ret_two HE.out rfl, Grown.refl _⟩

set_option maxHeartbeats 400000 in
theorem mul_no (a b : Int) (w : World) (h0 : -9223372036854775808 ≤ a) (h1 : a ≤ 9223372036854775807) (h2 : -9223372036854775808 ≤ b) (h3 : b ≤ 9223372036854775807) (hf : ¬ Fit (a * b)) :
    Calls Try.prog 34 #[.int .i64 a, .int .i64 b] w fun e w' => e = .returned (.tuple #[.int .i64 0, .int .i64 14]) ∧ Grown w w' := by
  have ht := mul_test_no (mul_bd h0 h1 h2 h3) hf
  clear hf
  go_enter Try.func34, Try.ntmps34
  go_wp2_with fail
  refine (product_any _ _ _ h0 h1 h2 h3).mono ?_
  rintro e w1 ⟨rfl, rfl⟩
  go_wp2
  go_ret2
  exact ⟨rfl, Grown.refl _⟩

set_option maxHeartbeats 400000 in
theorem compare_i (a b : Int) (w : World) :
    Calls Try.prog 45 #[.int .i64 a, .int .i64 b] w fun e w' => e = .returned (.int .i64 (cmpI a b)) ∧ w = w' := by
  rcases Int.lt_trichotomy a b with c | c | c
  · rw [cmpI_lt c]
    go_enter Try.func45, Try.ntmps45
    go_wp2
    go_ret
    exact ⟨rfl, rfl⟩
  · rw [cmpI_eq c]
    subst c
    go_enter Try.func45, Try.ntmps45
    go_wp2
    go_ret
    exact ⟨rfl, rfl⟩
  · rw [cmpI_gt c]
    go_enter Try.func45, Try.ntmps45
    go_wp2
    go_ret
    exact ⟨rfl, rfl⟩

set_option maxHeartbeats 400000 in
theorem compare_u (a b : Int) (w : World) :
    Calls Try.prog 46 #[.int .u64 a, .int .u64 b] w fun e w' => e = .returned (.int .i64 (cmpI a b)) ∧ w = w' := by
  rcases Int.lt_trichotomy a b with c | c | c
  · rw [cmpI_lt c]
    go_enter Try.func46, Try.ntmps46
    go_wp2
    go_ret
    exact ⟨rfl, rfl⟩
  · rw [cmpI_eq c]
    subst c
    go_enter Try.func46, Try.ntmps46
    go_wp2
    go_ret
    exact ⟨rfl, rfl⟩
  · rw [cmpI_gt c]
    go_enter Try.func46, Try.ntmps46
    go_wp2
    go_ret
    exact ⟨rfl, rfl⟩

theorem cmp_hi {p q : Int} (h : hi p ≠ hi q) : cmpI (hi p) (hi q) = cmpI p q := by
  rcases Int.lt_trichotomy (hi p) (hi q) with c | c | c
  · rw [cmpI_lt c, cmpI_lt (hi_lt c)]
  · exact absurd c h
  · rw [cmpI_gt c, cmpI_gt (hi_lt c)]
theorem cmp_lo {p q : Int} (h : hi p = hi q) : cmpI (lo p) (lo q) = cmpI p q := by
  have a := lo_lt h
  have b := lo_lt h.symm
  unfold cmpI
  simp only [a.1, b.1]

set_option maxHeartbeats 400000 in
theorem cross_any (a b c d : Int) (w : World) (h0 : -9223372036854775808 ≤ a) (h1 : a ≤ 9223372036854775807) (h2 : -9223372036854775808 ≤ b) (h3 : b ≤ 9223372036854775807) (h4 : -9223372036854775808 ≤ c) (h5 : c ≤ 9223372036854775807) (h6 : -9223372036854775808 ≤ d) (h7 : d ≤ 9223372036854775807) :
    Calls Try.prog 37 #[.int .i64 a, .int .i64 b, .int .i64 c, .int .i64 d] w fun e w' => e = .returned (.int .i64 (cmpI (a * b) (c * d))) ∧ Grown w w' := by
  by_cases ht : (hi (a * b) != hi (c * d)) = true
  · have hn : hi (a * b) ≠ hi (c * d) := by simpa using ht
    have HC := Lib.hid (cmp_hi hn)
    clear hn
    go_enter Try.func37, Try.ntmps37
    go_wp2_with fail
    refine (product_any _ _ _ h0 h1 h2 h3).mono ?_
    rintro e w1 ⟨rfl, rfl⟩
    go_wp2_with fail
    refine (product_any _ _ _ h4 h5 h6 h7).mono ?_
    rintro e w2 ⟨rfl, rfl⟩
    go_wp2_with fail
    refine (compare_i _ _ _).mono ?_
    rintro e w3 ⟨rfl, rfl⟩
    go_wp2
    go_ret
    exact ⟨ret_int HC.out, Grown.refl _⟩
  · have hn : hi (a * b) = hi (c * d) := by simpa using ht
    have HC := Lib.hid (cmp_lo hn)
    have ht' : (hi (a * b) != hi (c * d)) = false := by simpa using ht
    clear hn ht
    go_enter Try.func37, Try.ntmps37
    go_wp2_with fail
    refine (product_any _ _ _ h0 h1 h2 h3).mono ?_
    rintro e w1 ⟨rfl, rfl⟩
    go_wp2_with fail
    refine (product_any _ _ _ h4 h5 h6 h7).mono ?_
    rintro e w2 ⟨rfl, rfl⟩
    go_wp2_with fail
    refine (compare_u _ _ _).mono ?_
    rintro e w3 ⟨rfl, rfl⟩
    go_wp2
    go_ret
    exact ⟨ret_int HC.out, Grown.refl _⟩
end Go.Proofs.Ytbimaaknjedonaa
