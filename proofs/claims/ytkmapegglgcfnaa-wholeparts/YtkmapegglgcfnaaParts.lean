/- What Lcm answers, in one; what divides both, by remainders; plain facts for the law WholeParts. -/
import Derived.Test.YtkmapegglgcfnaaW6
import Derived.Test.YtkmapegglgcfnaaRounds
namespace Go.Proofs.Ytkmapegglgcfnaa
open Go.RowKit
set_option linter.unusedVariables false

theorem fit_em (p : Int) : Fit p ∨ ¬ Fit p := Classical.em _

/-- What Lcm answers: the number, the error. -/
def lcmV (a b : Int) : Int := if a < 1 ∨ b < 1 then 0 else if -9223372036854775808 ≤ a / gcdV a b * b ∧ a / gcdV a b * b ≤ 9223372036854775807 then a / gcdV a b * b else 0
def lcmE (a b : Int) : Int := if a < 1 ∨ b < 1 then 2 else if -9223372036854775808 ≤ a / gcdV a b * b ∧ a / gcdV a b * b ≤ 9223372036854775807 then 0 else 14

theorem lcm_none {a b : Int} (h : a < 1 ∨ b < 1) : lcmV a b = 0 ∧ lcmE a b = 2 := by
  unfold lcmV lcmE; rw [if_pos h, if_pos h]; exact ⟨rfl, rfl⟩
theorem lcm_fit {a b : Int} (h : ¬ (a < 1 ∨ b < 1)) (hf : Fit (a / gcdV a b * b)) : lcmV a b = a / gcdV a b * b ∧ lcmE a b = 0 := by
  unfold Fit at hf; unfold lcmV lcmE; rw [if_neg h, if_neg h, if_pos hf, if_pos hf]; exact ⟨rfl, rfl⟩
theorem lcm_unfit {a b : Int} (h : ¬ (a < 1 ∨ b < 1)) (hf : ¬ Fit (a / gcdV a b * b)) : lcmV a b = 0 ∧ lcmE a b = 14 := by
  unfold Fit at hf; unfold lcmV lcmE; rw [if_neg h, if_neg h, if_neg hf, if_neg hf]; exact ⟨rfl, rfl⟩

theorem lcm_any (a b : Int) (w : World) (h1 : a ≤ 9223372036854775807) (h3 : b ≤ 9223372036854775807) :
    Calls Try.prog 25 #[.int .i64 a, .int .i64 b] w fun e w' => e = .returned (.tuple #[.int .i64 (lcmV a b), .int .i64 (lcmE a b)]) ∧ Grown w w' := by
  by_cases h : a < 1 ∨ b < 1
  · rw [(lcm_none h).1, (lcm_none h).2]
    exact (lcm_arg a b w h).mono fun e w' ⟨he, hw⟩ => ⟨he, hw ▸ Grown.refl w⟩
  · rcases fit_em (a / gcdV a b * b) with hf | hf
    · rw [(lcm_fit h hf).1, (lcm_fit h hf).2]
      exact lcm_ok a b w (by omega) h1 (by omega) h3 hf
    · rw [(lcm_unfit h hf).1, (lcm_unfit h hf).2]
      exact lcm_no a b w (by omega) h1 (by omega) h3 hf

theorem gcdV_bd (a b : Int) : 0 ≤ gcdV a b ∧ gcdV a b ≤ 9223372036854775807 := by
  unfold gcdV; split <;> omega
theorem gcdV_dvd {a b : Int} (h : 0 < gcdV a b) : a.tmod (gcdV a b) = 0 ∧ b.tmod (gcdV a b) = 0 := by
  have e : gcdV a b = Int.gcd a b := by
    unfold gcdV at h ⊢
    split
    · rfl
    · rename_i hn; rw [if_neg hn] at h; omega
  rw [e]
  exact ⟨Int.tmod_eq_zero_of_dvd (Int.gcd_dvd_left ..), Int.tmod_eq_zero_of_dvd (Int.gcd_dvd_right ..)⟩

/-- What is left bears the sign of what is divided. -/
theorem rest_sign {a b : Int} (h : a.tmod b ≠ 0) : decide (a.tmod b < 0) = decide (a < 0) := by
  have ha := ne_of_rest h
  rw [Bool.eq_iff_iff]
  simp only [decide_eq_true_eq]
  rcases Int.lt_or_le a 0 with c | c
  · have := Int.tmod_nonneg (a := -a) b (by omega)
    rw [Int.neg_tmod] at this
    omega
  · have := Int.tmod_nonneg b c
    omega
end Go.Proofs.Ytkmapegglgcfnaa
