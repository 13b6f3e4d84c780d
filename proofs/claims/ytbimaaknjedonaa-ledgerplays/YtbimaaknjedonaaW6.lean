/- Contracts of the document's own answers (evenhandedref1): magnitude, Gcd, Add, Mul, product, Cross. -/
import Derived.Test.YtbimaaknjedonaaW5
import Derived.Test.YtbimaaknjedonaaGcds
import Derived.LoopTactic
namespace Go.Proofs.Ytbimaaknjedonaa
open Go.RowKit
set_option linter.unusedVariables false

theorem euclid_le {a b : Int} {m n : Nat} (h : Nat.gcd n m = Nat.gcd b.natAbs a.natAbs) (hle : Int.gcd a b ≤ 9223372036854775807) : n = 0 → m ≤ 9223372036854775807 := by
  rintro rfl
  rw [← euclid_end h]; exact hle

theorem max_abs (a : Int) : max a (-a) = (a.natAbs : Int) := by omega
theorem radd_lem {a b : Int} (h : a + b < -9223372036854775808) (h0 : -9223372036854775808 ≤ a) (h2 : -9223372036854775808 ≤ b) : 0 ≤ wrap64 (a + b) := by unfold wrap64; omega
theorem radd_lem2 {a b : Int} (h : 9223372036854775807 < a + b) (h1 : a ≤ 9223372036854775807) (h3 : b ≤ 9223372036854775807) : wrap64 (a + b) < 0 := by unfold wrap64; omega

set_option maxHeartbeats 400000 in
theorem rgcd_any (a b : Int) (w : World) (h0 : -9223372036854775807 ≤ a) (h1 : a ≤ 9223372036854775807) (h2 : -9223372036854775807 ≤ b) (h3 : b ≤ 9223372036854775807) :
    Calls Try.prog 27 #[.int .i64 a, .int .i64 b] w fun e w' => e = .returned (.int .i64 (gcdV a b)) ∧ Grown w w' := by
  have ea : (if a < -a then -a else a) = (a.natAbs : Int) := by split <;> omega
  have eb : (if b < -b then -b else b) = (b.natAbs : Int) := by split <;> omega
  go_enter Try.func27, Try.ntmps27
  go_wp2
  clear ea eb
  go_loopw [0, 1] (fun x y wr => Euclid .i64 a b w x y wr) (fun _ y _ => (intOf y).toNat)
  case atStart => exact ⟨a.natAbs, b.natAbs, by first | rfl | exact congrArg _ (max_abs _), by first | rfl | exact congrArg _ (max_abs _), rfl, by omega, by omega, Grown.refl _⟩
  case round =>
    obtain ⟨m, n, rfl, rfl, hg, hm, hn, hw⟩ := hrel
    have HG := Lib.hid hg
    clear hg
    have hle := gcd_le (a := a) (b := b) (B := 9223372036854775807) (by omega) (by omega)
    have hmg := euclid_le HG.out hle
    by_cases hz : n = 0
    · subst hz
      have he := euclid_end HG.out
      have HF : Hid ((m : Int) = gcdV a b) := by show _ = _; unfold gcdV; rw [he, if_pos (by omega)]
      clear he HG
      go_wp2
      go_ret
      exact ⟨ret_int HF.out, hw⟩
    · have hz1 : ((n : Int) != 0) = true := by simpa using hz
      have hz2 : ¬ (n : Int) = 0 := by omega
      go_wp2
      go_region
      go_roundw
      case rel => exact ⟨_, _, _, _, _, _, _, _, ⟨n, m % n, rfl, rfl, euclid_step HG.out, hn, Nat.le_trans (Nat.mod_le _ _) hm, hw.drew⟩, rfl⟩
      case measure => simp [intOf]; have := Nat.mod_lt m (Nat.pos_of_ne_zero hz); omega

/-- The sign of a number. -/
def sg (p : Int) : Int := if p < 0 then -1 else if p = 0 then 0 else 1

theorem mag_mul (a b : Int) : (a.natAbs : Int) * (b.natAbs : Int) = ((a * b).natAbs : Int) := by rw [Int.natAbs_mul, Int.natCast_mul]

/-- The magnitude of a product, in two halves. -/
def mh (p : Int) : Int := hi (p.natAbs : Int)
def ml (p : Int) : Int := lo (p.natAbs : Int)

theorem mul64_mag (a b : Int) (w : World) (h0 : -9223372036854775808 ≤ a) (h1 : a ≤ 9223372036854775807) (h2 : -9223372036854775808 ≤ b) (h3 : b ≤ 9223372036854775807) :
    Calls Try.prog 51 #[.int .u64 (a.natAbs : Int), .int .u64 (b.natAbs : Int)] w fun e w' => e = .returned (.tuple #[.int .u64 (mh (a * b)), .int .u64 (ml (a * b))]) ∧ w = w' := by
  refine (mul64_any _ _ (by omega) (by omega) (by omega) (by omega) w).mono ?_
  rintro e w' ⟨rfl, rfl⟩
  exact ⟨ret_two (by unfold mh; rw [mag_mul]) (by unfold ml; rw [mag_mul]), rfl⟩

theorem sign_same {a b : Int} (h : (a < 0) = (b < 0)) : 0 ≤ a * b := by
  by_cases c : a < 0
  · have d : b < 0 := by rw [← h]; exact c
    exact Int.mul_nonneg_of_nonpos_of_nonpos (by omega) (by omega)
  · have d : ¬ b < 0 := by rw [← h]; exact c
    exact Int.mul_nonneg (by omega) (by omega)
theorem sign_diff {a b : Int} (h : (a < 0) ≠ (b < 0)) : a * b ≤ 0 := by
  by_cases c : a < 0
  · have d : ¬ b < 0 := fun d => h (by simp [c, d])
    exact Int.mul_nonpos_of_nonpos_of_nonneg (by omega) (by omega)
  · have d : b < 0 := by
      rcases Int.lt_or_le b 0 with d | d
      · exact d
      · exact absurd (by simp [c]; omega) h
    exact Int.mul_nonpos_of_nonneg_of_nonpos (by omega) (by omega)
theorem fit_same {p : Int} (hf : Fit p) (h : 0 ≤ p) : mh p = 0 ∧ ml p ≤ 9223372036854775807 ∧ 0 ≤ ml p ∧ ml p = p := by
  unfold Fit at hf; unfold mh ml hi lo; omega
theorem fit_diff {p : Int} (hf : Fit p) (h : p ≤ 0) : mh p = 0 ∧ ml p ≤ 9223372036854775808 ∧ 0 ≤ ml p ∧ wrap64 (IntKind.u64.wrap (-ml p)) = p := by
  unfold Fit at hf; rw [IntKind.wrap_u64]; unfold mh ml hi lo wrap64; omega
theorem unfit_same {p : Int} (hf : ¬ Fit p) (h : 0 ≤ p) : mh p ≠ 0 ∨ 9223372036854775807 < ml p := by
  unfold Fit at hf; unfold mh ml hi lo; omega
theorem unfit_diff {p : Int} (hf : ¬ Fit p) (h : p ≤ 0) : mh p ≠ 0 ∨ 9223372036854775808 < ml p := by
  unfold Fit at hf; unfold mh ml hi lo; omega
theorem ret_ib {k : IntKind} {a b : Int} {c : Bool} (h : a = b) : Ending.returned (.tuple #[.int k a, .bool c]) = .returned (.tuple #[.int k b, .bool c]) := by rw [h]

end Go.Proofs.Ytbimaaknjedonaa
