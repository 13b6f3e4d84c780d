/- What Add and Mul answer, each in one; a product divided by its factor: plain facts for the law WholeLaws. -/
import Derived.Test.YtkmapegglgcfnaaW5
import Derived.Test.YtkmapegglgcfnaaRounds
import Derived.Below
namespace Go.Proofs.Ytkmapegglgcfnaa
open Go.RowKit
set_option linter.unusedVariables false

def FitB (p : Int) : Bool := decide (-9223372036854775808 ≤ p ∧ p ≤ 9223372036854775807)
theorem fitB_true {p : Int} (h : FitB p = true) : Fit p := by unfold FitB at h; unfold Fit; simpa using h
theorem fitB_false {p : Int} (h : FitB p = false) : ¬ Fit p := by unfold FitB at h; unfold Fit; simpa using h
/-- What an operation answers whose exact result is p: the number, the error. -/
def outV (p : Int) : Int := if FitB p then p else 0
def outE (p : Int) : Int := if FitB p then 0 else 14
theorem out_fit {p : Int} (h : FitB p = true) : outV p = p ∧ outE p = 0 := by unfold outV outE; rw [h]; exact ⟨rfl, rfl⟩
theorem out_no {p : Int} (h : FitB p = false) : outV p = 0 ∧ outE p = 14 := by unfold outV outE; rw [h]; exact ⟨rfl, rfl⟩

theorem add_any (a b : Int) (w : World) (h0 : -9223372036854775808 ≤ a) (h1 : a ≤ 9223372036854775807) (h2 : -9223372036854775808 ≤ b) (h3 : b ≤ 9223372036854775807) :
    Calls Try.prog 17 #[.int .i64 a, .int .i64 b] w fun e w' => e = .returned (.tuple #[.int .i64 (outV (a + b)), .int .i64 (outE (a + b))]) ∧ w = w' := by
  cases h : FitB (a + b)
  · rw [(out_no h).1, (out_no h).2]
    have := fitB_false h
    unfold Fit at this
    exact add_no a b w h0 h1 h2 h3 (by omega)
  · rw [(out_fit h).1, (out_fit h).2]
    exact add_ok a b w h0 h1 h2 h3 (fitB_true h).1 (fitB_true h).2
theorem add_at (a b v : Int) (w : World) (h0 : -9223372036854775808 ≤ a) (h1 : a ≤ 9223372036854775807) (h2 : -9223372036854775808 ≤ b) (h3 : b ≤ 9223372036854775807) (hv : a + b = v) (h4 : -9223372036854775808 ≤ v) (h5 : v ≤ 9223372036854775807) :
    Calls Try.prog 17 #[.int .i64 a, .int .i64 b] w fun e w' => e = .returned (.tuple #[.int .i64 v, .int .i64 0]) ∧ w = w' := by
  subst hv
  exact add_ok a b w h0 h1 h2 h3 h4 h5
theorem mul_any (a b : Int) (w : World) (h0 : -9223372036854775808 ≤ a) (h1 : a ≤ 9223372036854775807) (h2 : -9223372036854775808 ≤ b) (h3 : b ≤ 9223372036854775807) :
    Calls Try.prog 19 #[.int .i64 a, .int .i64 b] w fun e w' => e = .returned (.tuple #[.int .i64 (outV (a * b)), .int .i64 (outE (a * b))]) ∧ Grown w w' := by
  cases h : FitB (a * b)
  · rw [(out_no h).1, (out_no h).2]
    exact mul_no a b w h0 h1 h2 h3 (fitB_false h)
  · rw [(out_fit h).1, (out_fit h).2]
    exact mul_ok a b w h0 h1 h2 h3 (fitB_true h)

theorem back_flo {a b : Int} (hb : b ≠ 0) : flo (a * b) b = a ∧ cei (a * b) b = a := by
  have h : (a * b).tmod b = 0 := Int.mul_tmod_left a b
  unfold flo cei
  rw [if_neg (by simp [h]), if_neg (by simp [h]), Int.mul_tdiv_cancel a hb]
  exact ⟨rfl, rfl⟩
theorem rest_bd {a b : Int} (h0 : -9223372036854775808 ≤ a) (h1 : a ≤ 9223372036854775807) (h2 : -9223372036854775808 ≤ b) (h3 : b ≤ 9223372036854775807) (hb : b ≠ 0) : -9223372036854775807 ≤ a.tmod b ∧ a.tmod b ≤ 9223372036854775807 := by
  have h : (a.tmod b).natAbs = a.natAbs % b.natAbs := Int.natAbs_tmod a b
  have := Nat.mod_lt a.natAbs (show 0 < b.natAbs by omega)
  omega
/-- Where something is left, rounded up is one more than rounded down. -/
theorem round_pair {a b : Int} (hr : a.tmod b ≠ 0) (tb : -4611686018427387904 ≤ a.tdiv b ∧ a.tdiv b ≤ 4611686018427387904) :
    ∃ v : Int, Hid (flo a b = v) ∧ Hid (cei a b = v + 1) ∧ -9223372036854775808 ≤ v ∧ v ≤ 9223372036854775806 := by
  by_cases h : decide (a < 0) = decide (b < 0)
  · refine ⟨a.tdiv b, ?_, ?_, by omega, by omega⟩
    · show _ = _; unfold flo; rw [if_neg (by simp [h])]
    · show _ = _; unfold cei; rw [if_pos ⟨hr, h⟩]
  · refine ⟨a.tdiv b - 1, ?_, ?_, by omega, by omega⟩
    · show _ = _; unfold flo; rw [if_pos ⟨hr, h⟩]
    · show _ = _; unfold cei; rw [if_neg (by simp [h])]; omega
end Go.Proofs.Ytkmapegglgcfnaa
