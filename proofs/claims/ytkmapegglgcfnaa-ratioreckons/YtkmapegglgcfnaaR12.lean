/- What RatioKnown leans on besides: a loop of five rounds; whole parts of a pair of numbers. -/
import Derived.Test.YtkmapegglgcfnaaR11
namespace Go.Proofs.Ytkmapegglgcfnaa
open Go.RowKit
set_option linter.unusedVariables false

/-- The head of a loop of five rounds. -/
def Rounds5 (W : World) (i : Value) (wr : World) : Prop := ∃ k : Int, (k = 0 ∨ k = 1 ∨ k = 2 ∨ k = 3 ∨ k = 4 ∨ k = 5) ∧ i = .int .i64 k ∧ Grown W wr

theorem floor_ints (n d v : Int) (w : World) (h0 : -9223372036854775808 ≤ n) (h1 : n ≤ 9223372036854775807) (h3 : d ≤ 9223372036854775807) (ma : MayR n d) (hv : flo n d = v) :
    Calls Try.prog 39 #[.agg #[.int .i64 n, .int .i64 d]] w fun e w' => e = .returned (.int .i64 v) ∧ Grown w w' := by
  obtain ⟨q, rfl, rfl⟩ := rat_of n d ma.1 ma.2
  rw [flo_floor] at hv
  exact floor_at' q v w ⟨h0, h1, h3⟩ hv
theorem ceil_ints (n d v : Int) (w : World) (h0 : -9223372036854775808 ≤ n) (h1 : n ≤ 9223372036854775807) (h3 : d ≤ 9223372036854775807) (ma : MayR n d) (hv : cei n d = v) :
    Calls Try.prog 41 #[.agg #[.int .i64 n, .int .i64 d]] w fun e w' => e = .returned (.int .i64 v) ∧ Grown w w' := by
  obtain ⟨q, rfl, rfl⟩ := rat_of n d ma.1 ma.2
  rw [cei_ceil] at hv
  exact ceil_at' q v w ⟨h0, h1, h3⟩ hv
theorem ceil_floor (x : Rat) : x.ceil - x.floor = min 1 ((x.den : Int) - 1) := by
  have pd := den_pos' x
  rw [← cei_ceil, ← flo_floor]
  by_cases c : (x.den : Int) = 1
  · rw [c]
    have : x.num.tmod 1 = 0 := by simp
    unfold cei flo
    rw [if_neg (by simp), if_neg (by simp)]
    omega
  · have hr : x.num.tmod (x.den : Int) ≠ 0 := by
      intro h
      have d : (x.den : Int) ∣ x.num := Int.dvd_of_tmod_eq_zero h
      have g := rat_gcd x
      have : Int.gcd x.num (x.den : Int) = x.den := by
        have := Int.gcd_eq_right (a := x.num) (b := (x.den : Int)) (by omega) d
        omega
      omega
    unfold cei flo
    by_cases s : x.num < 0
    · rw [if_neg (by simp [s]), if_pos ⟨hr, by simp [s]⟩]
      omega
    · rw [if_pos ⟨hr, by simp [s]⟩, if_neg (by simp [s])]
      omega
/-- The two boxes that came in, as they were. -/
structure Keep4 (w : World) (a b c d : Int) (w1 W : World) : Prop where
  a0 : W.cell? ⟨w.heap.size, 0, none⟩ = some (.int .i64 a)
  a1 : W.cell? ⟨w.heap.size, 1, none⟩ = some (.int .i64 b)
  b0 : W.cell? ⟨w.heap.size + 1, 0, none⟩ = some (.int .i64 c)
  b1 : W.cell? ⟨w.heap.size + 1, 1, none⟩ = some (.int .i64 d)
  gw : Grown w W
  zs : w1.heap.size ≤ W.heap.size
theorem over_is (e : Int) (w : World) (h : e = 0 ∨ e = 14) : Calls Try.prog 45 #[.int .i64 e] w fun e' w' => e' = .returned (.bool true) ∧ w = w' := by
  rcases h with rfl | rfl
  · go_enter Try.func45, Try.ntmps45
    go_wp2
    go_ret
    exact ⟨rfl, rfl⟩
  · go_enter Try.func45, Try.ntmps45
    go_wp2
    go_ret
    exact ⟨rfl, rfl⟩
theorem over_any (r : Rat) (w : World) : Calls Try.prog 45 #[.int .i64 (qE r)] w fun e' w' => e' = .returned (.bool true) ∧ w = w' := over_is _ w (qE_or r)
theorem of_zero_at (n d : Int) (w : World) (h : d = 0) : Calls Try.prog 30 #[.int .i64 n, .int .i64 d] w fun e w' => e = .returned (.tuple #[.agg #[.int .i64 0, .int .i64 0], .int .i64 2]) ∧ Grown w w' := by
  rw [h]; exact of_zero n w
end Go.Proofs.Ytkmapegglgcfnaa
