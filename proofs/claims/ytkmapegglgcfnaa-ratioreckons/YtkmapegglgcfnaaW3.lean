/- Contracts of Floor and Ceil. -/
import Derived.Test.YtkmapegglgcfnaaW1
namespace Go.Proofs.Ytkmapegglgcfnaa
open Go.RowKit
set_option linter.unusedVariables false

/-- Rounded down, rounded up, by what is rounded towards nought and what is left. -/
def flo (a b : Int) : Int := if a.tmod b ≠ 0 ∧ (decide (a < 0) ≠ decide (b < 0)) then a.tdiv b - 1 else a.tdiv b
def cei (a b : Int) : Int := if a.tmod b ≠ 0 ∧ (decide (a < 0) = decide (b < 0)) then a.tdiv b + 1 else a.tdiv b

theorem tdiv_rest_bd {a b : Int} (h0 : -9223372036854775808 ≤ a) (h1 : a ≤ 9223372036854775807) (hb : b ≠ 0) (hr : a.tmod b ≠ 0) : -4611686018427387904 ≤ a.tdiv b ∧ a.tdiv b ≤ 4611686018427387904 := by
  have b1 : b ≠ 1 := by rintro rfl; simp at hr
  have b2 : b ≠ -1 := by rintro rfl; simp [Int.tmod_neg] at hr
  have hn : 2 ≤ b.natAbs := by omega
  have hq : (a.tdiv b).natAbs = a.natAbs / b.natAbs := Int.natAbs_tdiv a b
  have h2 : a.natAbs / b.natAbs ≤ a.natAbs / 2 := Nat.div_le_div_left hn (by omega)
  omega

theorem two_back {a b c d : Int} {w w' : World} (h : a = b) (g : c = d) (hw : w' = w) : Ending.returned (.tuple #[.int .i64 a, .int .i64 c]) = .returned (.tuple #[.int .i64 b, .int .i64 d]) ∧ w' = w := ⟨by rw [h, g], hw⟩

set_option maxHeartbeats 400000 in
theorem floor_any (a b : Int) (w : World) (h0 : -9223372036854775808 ≤ a) (h1 : a ≤ 9223372036854775807) (h2 : -9223372036854775808 ≤ b) (h3 : b ≤ 9223372036854775807) (hb : b ≠ 0) (hab : a ≠ -9223372036854775808 ∨ b ≠ -1) :
    Calls Try.prog 26 #[.int .i64 a, .int .i64 b] w fun e w' => e = .returned (.tuple #[.int .i64 (flo a b), .int .i64 0]) ∧ w' = w.drew := by
  have HD := Lib.hid (divide_any a b w h0 h1 h2 h3 hb hab)
  by_cases hr : (a.tmod b != 0) = true
  · have hr' : a.tmod b ≠ 0 := by simpa using hr
    have bd := tdiv_rest_bd h0 h1 hb hr'
    by_cases c1 : a < 0 <;> by_cases c2 : b < 0
    · have HF : Hid (a.tdiv b = flo a b) := by show _ = _; unfold flo; rw [if_neg (by simp [c1, c2])]
      have d1 : decide (a < 0) = true := by simp [c1]
      have d2 : decide (b < 0) = true := by simp [c2]
      clear hb hab hr'
      go_enter Try.func26, Try.ntmps26
      go_wp2_with fail
      refine HD.out.mono ?_
      rintro e w1 ⟨rfl, rfl⟩
      go_wp2
      go_ret2
      exact ⟨ret_two HF.out rfl, rfl⟩
    · have HF : Hid (a.tdiv b - 1 = flo a b) := by show _ = _; unfold flo; rw [if_pos ⟨hr', by simp [c1, c2]⟩]
      have d1 : decide (a < 0) = true := by simp [c1]
      have d2 : decide (b < 0) = false := by simp [c2]
      clear hb hab hr'
      go_enter Try.func26, Try.ntmps26
      go_wp2_with fail
      refine HD.out.mono ?_
      rintro e w1 ⟨rfl, rfl⟩
      go_wp2
      go_ret2
      exact ⟨ret_two HF.out rfl, rfl⟩
    · have HF : Hid (a.tdiv b - 1 = flo a b) := by show _ = _; unfold flo; rw [if_pos ⟨hr', by simp [c1, c2]⟩]
      have d1 : decide (a < 0) = false := by simp [c1]
      have d2 : decide (b < 0) = true := by simp [c2]
      clear hb hab hr'
      go_enter Try.func26, Try.ntmps26
      go_wp2_with fail
      refine HD.out.mono ?_
      rintro e w1 ⟨rfl, rfl⟩
      go_wp2
      go_ret2
      exact ⟨ret_two HF.out rfl, rfl⟩
    · have HF : Hid (a.tdiv b = flo a b) := by show _ = _; unfold flo; rw [if_neg (by simp [c1, c2])]
      have d1 : decide (a < 0) = false := by simp [c1]
      have d2 : decide (b < 0) = false := by simp [c2]
      clear hb hab hr'
      go_enter Try.func26, Try.ntmps26
      go_wp2_with fail
      refine HD.out.mono ?_
      rintro e w1 ⟨rfl, rfl⟩
      go_wp2
      go_ret2
      exact ⟨ret_two HF.out rfl, rfl⟩
  · have hr' : a.tmod b = 0 := by simpa using hr
    have HF : Hid (a.tdiv b = flo a b) := by show _ = _; unfold flo; rw [if_neg (by simp [hr'])]
    have hr2 : (a.tmod b != 0) = false := by simpa using hr
    clear hb hab hr' hr
    go_enter Try.func26, Try.ntmps26
    go_wp2_with fail
    refine HD.out.mono ?_
    rintro e w1 ⟨rfl, rfl⟩
    go_wp2
    go_ret2
    exact ⟨ret_two HF.out rfl, rfl⟩

set_option maxHeartbeats 400000 in
theorem ceil_any (a b : Int) (w : World) (h0 : -9223372036854775808 ≤ a) (h1 : a ≤ 9223372036854775807) (h2 : -9223372036854775808 ≤ b) (h3 : b ≤ 9223372036854775807) (hb : b ≠ 0) (hab : a ≠ -9223372036854775808 ∨ b ≠ -1) :
    Calls Try.prog 27 #[.int .i64 a, .int .i64 b] w fun e w' => e = .returned (.tuple #[.int .i64 (cei a b), .int .i64 0]) ∧ w' = w.drew := by
  have HD := Lib.hid (divide_any a b w h0 h1 h2 h3 hb hab)
  by_cases hr : (a.tmod b != 0) = true
  · have hr' : a.tmod b ≠ 0 := by simpa using hr
    have bd := tdiv_rest_bd h0 h1 hb hr'
    by_cases c1 : a < 0 <;> by_cases c2 : b < 0
    · have HF : Hid (a.tdiv b + 1 = cei a b) := by show _ = _; unfold cei; rw [if_pos ⟨hr', by simp [c1, c2]⟩]
      have d1 : decide (a < 0) = true := by simp [c1]
      have d2 : decide (b < 0) = true := by simp [c2]
      clear hb hab hr'
      go_enter Try.func27, Try.ntmps27
      go_wp2_with fail
      refine HD.out.mono ?_
      rintro e w1 ⟨rfl, rfl⟩
      go_wp2
      go_ret2
      exact ⟨ret_two HF.out rfl, rfl⟩
    · have HF : Hid (a.tdiv b = cei a b) := by show _ = _; unfold cei; rw [if_neg (by simp [c1, c2])]
      have d1 : decide (a < 0) = true := by simp [c1]
      have d2 : decide (b < 0) = false := by simp [c2]
      clear hb hab hr'
      go_enter Try.func27, Try.ntmps27
      go_wp2_with fail
      refine HD.out.mono ?_
      rintro e w1 ⟨rfl, rfl⟩
      go_wp2
      go_ret2
      exact ⟨ret_two HF.out rfl, rfl⟩
    · have HF : Hid (a.tdiv b = cei a b) := by show _ = _; unfold cei; rw [if_neg (by simp [c1, c2])]
      have d1 : decide (a < 0) = false := by simp [c1]
      have d2 : decide (b < 0) = true := by simp [c2]
      clear hb hab hr'
      go_enter Try.func27, Try.ntmps27
      go_wp2_with fail
      refine HD.out.mono ?_
      rintro e w1 ⟨rfl, rfl⟩
      go_wp2
      go_ret2
      exact ⟨ret_two HF.out rfl, rfl⟩
    · have HF : Hid (a.tdiv b + 1 = cei a b) := by show _ = _; unfold cei; rw [if_pos ⟨hr', by simp [c1, c2]⟩]
      have d1 : decide (a < 0) = false := by simp [c1]
      have d2 : decide (b < 0) = false := by simp [c2]
      clear hb hab hr'
      go_enter Try.func27, Try.ntmps27
      go_wp2_with fail
      refine HD.out.mono ?_
      rintro e w1 ⟨rfl, rfl⟩
      go_wp2
      go_ret2
      exact ⟨ret_two HF.out rfl, rfl⟩
  · have hr' : a.tmod b = 0 := by simpa using hr
    have HF : Hid (a.tdiv b = cei a b) := by show _ = _; unfold cei; rw [if_neg (by simp [hr'])]
    have hr2 : (a.tmod b != 0) = false := by simpa using hr
    clear hb hab hr' hr
    go_enter Try.func27, Try.ntmps27
    go_wp2_with fail
    refine HD.out.mono ?_
    rintro e w1 ⟨rfl, rfl⟩
    go_wp2
    go_ret2
    exact ⟨ret_two HF.out rfl, rfl⟩

theorem floor_zero (a : Int) (w : World) :
    Calls Try.prog 26 #[.int .i64 a, .int .i64 0] w fun e w' => e = .returned (.tuple #[.int .i64 0, .int .i64 2]) ∧ w = w' := by
  go_enter Try.func26, Try.ntmps26
  go_wp2_with fail
  refine (divide_zero _ _).mono ?_
  rintro e w1 ⟨rfl, rfl⟩
  go_wp2
  go_ret2
  exact ⟨rfl, rfl⟩
theorem ceil_zero (a : Int) (w : World) :
    Calls Try.prog 27 #[.int .i64 a, .int .i64 0] w fun e w' => e = .returned (.tuple #[.int .i64 0, .int .i64 2]) ∧ w = w' := by
  go_enter Try.func27, Try.ntmps27
  go_wp2_with fail
  refine (divide_zero _ _).mono ?_
  rintro e w1 ⟨rfl, rfl⟩
  go_wp2
  go_ret2
  exact ⟨rfl, rfl⟩
theorem floor_over (w : World) :
    Calls Try.prog 26 #[.int .i64 (-9223372036854775808), .int .i64 (-1)] w fun e w' => e = .returned (.tuple #[.int .i64 0, .int .i64 14]) ∧ w = w' := by
  go_enter Try.func26, Try.ntmps26
  go_wp2_with fail
  refine (divide_over _).mono ?_
  rintro e w1 ⟨rfl, rfl⟩
  go_wp2
  go_ret2
  exact ⟨rfl, rfl⟩
theorem ceil_over (w : World) :
    Calls Try.prog 27 #[.int .i64 (-9223372036854775808), .int .i64 (-1)] w fun e w' => e = .returned (.tuple #[.int .i64 0, .int .i64 14]) ∧ w = w' := by
  go_enter Try.func27, Try.ntmps27
  go_wp2_with fail
  refine (divide_over _).mono ?_
  rintro e w1 ⟨rfl, rfl⟩
  go_wp2
  go_ret2
  exact ⟨rfl, rfl⟩
end Go.Proofs.Ytkmapegglgcfnaa
