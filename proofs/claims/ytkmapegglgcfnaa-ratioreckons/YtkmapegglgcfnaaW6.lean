/- Contracts of the document's own answers (evenhandedref1): magnitude, Gcd, Add, Mul, product, Cross. -/
import Derived.Test.YtkmapegglgcfnaaW5
import Derived.Test.YtkmapegglgcfnaaGcds
import Derived.LoopTactic
namespace Go.Proofs.Ytkmapegglgcfnaa
open Go.RowKit
set_option linter.unusedVariables false

set_option maxHeartbeats 400000 in
theorem magnitude_any (a : Int) (w : World) (h0 : -9223372036854775808 ≤ a) (h1 : a ≤ 9223372036854775807) :
    Calls Try.prog 48 #[.int .i64 a] w fun e w' => e = .returned (.int .u64 (a.natAbs : Int)) ∧ w = w' := by
  by_cases c : a < 0
  all_goals
    go_enter Try.func48, Try.ntmps48
    go_wp2
    go_ret
  · exact ⟨ret_int (by omega), rfl⟩
  · exact ⟨ret_int (by omega), rfl⟩

theorem euclid_le {a b : Int} {m n : Nat} (h : Nat.gcd n m = Nat.gcd b.natAbs a.natAbs) (hle : Int.gcd a b ≤ 9223372036854775807) : n = 0 → m ≤ 9223372036854775807 := by
  rintro rfl
  rw [← euclid_end h]; exact hle

theorem max_abs (a : Int) : max a (-a) = (a.natAbs : Int) := by omega
theorem radd_lem {a b : Int} (h : a + b < -9223372036854775808) (h0 : -9223372036854775808 ≤ a) (h2 : -9223372036854775808 ≤ b) : 0 ≤ wrap64 (a + b) := by unfold wrap64; omega
theorem radd_lem2 {a b : Int} (h : 9223372036854775807 < a + b) (h1 : a ≤ 9223372036854775807) (h3 : b ≤ 9223372036854775807) : wrap64 (a + b) < 0 := by unfold wrap64; omega

set_option maxHeartbeats 400000 in
theorem radd_ok (a b : Int) (w : World) (h0 : -9223372036854775808 ≤ a) (h1 : a ≤ 9223372036854775807) (h2 : -9223372036854775808 ≤ b) (h3 : b ≤ 9223372036854775807) (h4 : -9223372036854775808 ≤ a + b) (h5 : a + b ≤ 9223372036854775807) :
    Calls Try.prog 18 #[.int .i64 a, .int .i64 b] w fun e w' => e = .returned (.tuple #[.int .i64 (a + b), .bool true]) ∧ w = w' := by
  rcases Int.lt_or_le a 0 with c1 | c1 <;> rcases Int.lt_or_le b 0 with c2 | c2 <;> rcases Int.lt_or_le (a + b) 0 with c3 | c3
  · have e1 : decide (a < 0) = true := by simp; omega
    have f1 : decide (0 ≤ a) = false := by simp; omega
    have e2 : decide (b < 0) = true := by simp; omega
    have f2 : decide (0 ≤ b) = false := by simp; omega
    have e3 : decide (a + b < 0) = true := by simp; omega
    have f3 : decide (0 ≤ a + b) = false := by simp; omega
    go_enter Try.func18, Try.ntmps18
    go_wp2
    go_ret2
    exact ⟨rfl, rfl⟩
  · exfalso; omega
  · have e1 : decide (a < 0) = true := by simp; omega
    have f1 : decide (0 ≤ a) = false := by simp; omega
    have e2 : decide (b < 0) = false := by simp; omega
    have f2 : decide (0 ≤ b) = true := by simp; omega
    have e3 : decide (a + b < 0) = true := by simp; omega
    have f3 : decide (0 ≤ a + b) = false := by simp; omega
    go_enter Try.func18, Try.ntmps18
    go_wp2
    go_ret2
    exact ⟨rfl, rfl⟩
  · have e1 : decide (a < 0) = true := by simp; omega
    have f1 : decide (0 ≤ a) = false := by simp; omega
    have e2 : decide (b < 0) = false := by simp; omega
    have f2 : decide (0 ≤ b) = true := by simp; omega
    have e3 : decide (a + b < 0) = false := by simp; omega
    have f3 : decide (0 ≤ a + b) = true := by simp; omega
    go_enter Try.func18, Try.ntmps18
    go_wp2
    go_ret2
    exact ⟨rfl, rfl⟩
  · have e1 : decide (a < 0) = false := by simp; omega
    have f1 : decide (0 ≤ a) = true := by simp; omega
    have e2 : decide (b < 0) = true := by simp; omega
    have f2 : decide (0 ≤ b) = false := by simp; omega
    have e3 : decide (a + b < 0) = true := by simp; omega
    have f3 : decide (0 ≤ a + b) = false := by simp; omega
    go_enter Try.func18, Try.ntmps18
    go_wp2
    go_ret2
    exact ⟨rfl, rfl⟩
  · have e1 : decide (a < 0) = false := by simp; omega
    have f1 : decide (0 ≤ a) = true := by simp; omega
    have e2 : decide (b < 0) = true := by simp; omega
    have f2 : decide (0 ≤ b) = false := by simp; omega
    have e3 : decide (a + b < 0) = false := by simp; omega
    have f3 : decide (0 ≤ a + b) = true := by simp; omega
    go_enter Try.func18, Try.ntmps18
    go_wp2
    go_ret2
    exact ⟨rfl, rfl⟩
  · exfalso; omega
  · have e1 : decide (a < 0) = false := by simp; omega
    have f1 : decide (0 ≤ a) = true := by simp; omega
    have e2 : decide (b < 0) = false := by simp; omega
    have f2 : decide (0 ≤ b) = true := by simp; omega
    have e3 : decide (a + b < 0) = false := by simp; omega
    have f3 : decide (0 ≤ a + b) = true := by simp; omega
    go_enter Try.func18, Try.ntmps18
    go_wp2
    go_ret2
    exact ⟨rfl, rfl⟩

set_option maxHeartbeats 400000 in
theorem radd_no (a b : Int) (w : World) (h0 : -9223372036854775808 ≤ a) (h1 : a ≤ 9223372036854775807) (h2 : -9223372036854775808 ≤ b) (h3 : b ≤ 9223372036854775807) (h4 : a + b < -9223372036854775808 ∨ 9223372036854775807 < a + b) :
    Calls Try.prog 18 #[.int .i64 a, .int .i64 b] w fun e w' => e = .returned (.tuple #[.int .i64 0, .bool false]) ∧ w = w' := by
  rcases h4 with h4 | h4
  · have s := radd_lem h4 h0 h2
    have e1 : decide (a < 0) = true := by simp; omega
    have f1 : decide (0 ≤ a) = false := by simp; omega
    have e2 : decide (b < 0) = true := by simp; omega
    have f2 : decide (0 ≤ b) = false := by simp; omega
    have e3 : decide (wrap64 (a + b) < 0) = false := by simp; omega
    have f3 : decide (0 ≤ wrap64 (a + b)) = true := by simp; omega
    go_enter Try.func18, Try.ntmps18
    go_wp2
    go_ret2
    exact ⟨rfl, rfl⟩
  · have s := radd_lem2 h4 h1 h3
    have e1 : decide (a < 0) = false := by simp; omega
    have f1 : decide (0 ≤ a) = true := by simp; omega
    have e2 : decide (b < 0) = false := by simp; omega
    have f2 : decide (0 ≤ b) = true := by simp; omega
    have e3 : decide (wrap64 (a + b) < 0) = true := by simp; omega
    have f3 : decide (0 ≤ wrap64 (a + b)) = false := by simp; omega
    go_enter Try.func18, Try.ntmps18
    go_wp2
    go_ret2
    exact ⟨rfl, rfl⟩

set_option maxHeartbeats 400000 in
theorem rgcd_any (a b : Int) (w : World) (h0 : -9223372036854775807 ≤ a) (h1 : a ≤ 9223372036854775807) (h2 : -9223372036854775807 ≤ b) (h3 : b ≤ 9223372036854775807) :
    Calls Try.prog 24 #[.int .i64 a, .int .i64 b] w fun e w' => e = .returned (.int .i64 (gcdV a b)) ∧ Grown w w' := by
  have ea : (if a < -a then -a else a) = (a.natAbs : Int) := by split <;> omega
  have eb : (if b < -b then -b else b) = (b.natAbs : Int) := by split <;> omega
  go_enter Try.func24, Try.ntmps24
  go_wp2
  clear ea eb
  go_loopw [0, 1] (fun x y wr => Euclid .i64 a b w x y wr) (fun _ y _ => (intOf y).toNat)
  case atStart => exact ⟨a.natAbs, b.natAbs, by first | rfl | exact congrArg _ (max_abs _), by first | rfl | exact congrArg _ (max_abs _), rfl, by omega, by omega, Grown.refl _⟩
  case round =>
    obtain ⟨m, n, rfl, rfl, hg, hm, hn, hw⟩ := hrel
    have HG := Lib.hid hg
    clear hg
    have hle := gcd_le (a := a) (b := b) (B := 9223372036854775807) (by omega) (by omega)
    have hmg := euclid_le HG.out hle
    by_cases hz : n = 0
    · subst hz
      have he := euclid_end HG.out
      have HF : Hid ((m : Int) = gcdV a b) := by show _ = _; unfold gcdV; rw [he, if_pos (by omega)]
      clear he HG
      go_wp2
      go_ret
      exact ⟨ret_int HF.out, hw⟩
    · have hz1 : ((n : Int) != 0) = true := by simpa using hz
      have hz2 : ¬ (n : Int) = 0 := by omega
      go_wp2
      go_region
      go_roundw
      case rel => exact ⟨_, _, _, _, _, _, _, _, ⟨n, m % n, rfl, rfl, euclid_step HG.out, hn, Nat.le_trans (Nat.mod_le _ _) hm, hw.drew⟩, rfl⟩
      case measure => simp [intOf]; have := Nat.mod_lt m (Nat.pos_of_ne_zero hz); omega

/-- The sign of a number. -/
def sg (p : Int) : Int := if p < 0 then -1 else if p = 0 then 0 else 1

theorem mag_mul (a b : Int) : (a.natAbs : Int) * (b.natAbs : Int) = ((a * b).natAbs : Int) := by rw [Int.natAbs_mul, Int.natCast_mul]

/-- The magnitude of a product, in two halves. -/
def mh (p : Int) : Int := hi (p.natAbs : Int)
def ml (p : Int) : Int := lo (p.natAbs : Int)

theorem mul64_mag (a b : Int) (w : World) (h0 : -9223372036854775808 ≤ a) (h1 : a ≤ 9223372036854775807) (h2 : -9223372036854775808 ≤ b) (h3 : b ≤ 9223372036854775807) :
    Calls Try.prog 47 #[.int .u64 (a.natAbs : Int), .int .u64 (b.natAbs : Int)] w fun e w' => e = .returned (.tuple #[.int .u64 (mh (a * b)), .int .u64 (ml (a * b))]) ∧ w = w' := by
  refine (mul64_any _ _ (by omega) (by omega) (by omega) (by omega) w).mono ?_
  rintro e w' ⟨rfl, rfl⟩
  exact ⟨ret_two (by unfold mh; rw [mag_mul]) (by unfold ml; rw [mag_mul]), rfl⟩

theorem sign_same {a b : Int} (h : (a < 0) = (b < 0)) : 0 ≤ a * b := by
  by_cases c : a < 0
  · have d : b < 0 := by rw [← h]; exact c
    exact Int.mul_nonneg_of_nonpos_of_nonpos (by omega) (by omega)
  · have d : ¬ b < 0 := by rw [← h]; exact c
    exact Int.mul_nonneg (by omega) (by omega)
theorem sign_diff {a b : Int} (h : (a < 0) ≠ (b < 0)) : a * b ≤ 0 := by
  by_cases c : a < 0
  · have d : ¬ b < 0 := fun d => h (by simp [c, d])
    exact Int.mul_nonpos_of_nonpos_of_nonneg (by omega) (by omega)
  · have d : b < 0 := by
      rcases Int.lt_or_le b 0 with d | d
      · exact d
      · exact absurd (by simp [c]; omega) h
    exact Int.mul_nonpos_of_nonneg_of_nonpos (by omega) (by omega)
theorem fit_same {p : Int} (hf : Fit p) (h : 0 ≤ p) : mh p = 0 ∧ ml p ≤ 9223372036854775807 ∧ 0 ≤ ml p ∧ ml p = p := by
  unfold Fit at hf; unfold mh ml hi lo; omega
theorem fit_diff {p : Int} (hf : Fit p) (h : p ≤ 0) : mh p = 0 ∧ ml p ≤ 9223372036854775808 ∧ 0 ≤ ml p ∧ wrap64 (IntKind.u64.wrap (-ml p)) = p := by
  unfold Fit at hf; rw [IntKind.wrap_u64]; unfold mh ml hi lo wrap64; omega
theorem unfit_same {p : Int} (hf : ¬ Fit p) (h : 0 ≤ p) : mh p ≠ 0 ∨ 9223372036854775807 < ml p := by
  unfold Fit at hf; unfold mh ml hi lo; omega
theorem unfit_diff {p : Int} (hf : ¬ Fit p) (h : p ≤ 0) : mh p ≠ 0 ∨ 9223372036854775808 < ml p := by
  unfold Fit at hf; unfold mh ml hi lo; omega
theorem ret_ib {k : IntKind} {a b : Int} {c : Bool} (h : a = b) : Ending.returned (.tuple #[.int k a, .bool c]) = .returned (.tuple #[.int k b, .bool c]) := by rw [h]

set_option maxHeartbeats 400000 in
theorem rmul_ok (a b : Int) (w : World) (h0 : -9223372036854775808 ≤ a) (h1 : a ≤ 9223372036854775807) (h2 : -9223372036854775808 ≤ b) (h3 : b ≤ 9223372036854775807) (hf : Fit (a * b)) :
    Calls Try.prog 20 #[.int .i64 a, .int .i64 b] w fun e w' => e = .returned (.tuple #[.int .i64 (a * b), .bool true]) ∧ w = w' := by
  by_cases c1 : a < 0 <;> by_cases c2 : b < 0
  · obtain ⟨m0, m1, m2, m3⟩ := fit_same hf (sign_same (by simp [c1, c2]))
    have d1 : decide (a < 0) = true := by simp [c1]
    have d2 : decide (b < 0) = true := by simp [c2]
    have M3 := Lib.hid m3
    clear m3 hf
    go_enter Try.func20, Try.ntmps20
    go_wp2_with fail
    refine (magnitude_any _ _ h0 h1).mono ?_
    rintro e w1 ⟨rfl, rfl⟩
    go_wp2_with fail
    refine (magnitude_any _ _ h2 h3).mono ?_
    rintro e w2 ⟨rfl, rfl⟩
    go_wp2_with fail
    refine (mul64_mag _ _ _ h0 h1 h2 h3).mono ?_
    rintro e w3 ⟨rfl, rfl⟩
    go_wp2
    go_ret2
    exact ⟨ret_ib M3.out, rfl⟩
  · obtain ⟨m0, m1, m2, m3⟩ := fit_diff hf (sign_diff (by simp [c1, c2]))
    have d1 : decide (a < 0) = true := by simp [c1]
    have d2 : decide (b < 0) = false := by simp [c2]
    have M3 := Lib.hid m3
    clear m3 hf
    go_enter Try.func20, Try.ntmps20
    go_wp2_with fail
    refine (magnitude_any _ _ h0 h1).mono ?_
    rintro e w1 ⟨rfl, rfl⟩
    go_wp2_with fail
    refine (magnitude_any _ _ h2 h3).mono ?_
    rintro e w2 ⟨rfl, rfl⟩
    go_wp2_with fail
    refine (mul64_mag _ _ _ h0 h1 h2 h3).mono ?_
    rintro e w3 ⟨rfl, rfl⟩
    go_wp2
    go_ret2
    exact ⟨ret_ib M3.out, rfl⟩
  · obtain ⟨m0, m1, m2, m3⟩ := fit_diff hf (sign_diff (by simp [c1, c2]))
    have d1 : decide (a < 0) = false := by simp [c1]
    have d2 : decide (b < 0) = true := by simp [c2]
    have M3 := Lib.hid m3
    clear m3 hf
    go_enter Try.func20, Try.ntmps20
    go_wp2_with fail
    refine (magnitude_any _ _ h0 h1).mono ?_
    rintro e w1 ⟨rfl, rfl⟩
    go_wp2_with fail
    refine (magnitude_any _ _ h2 h3).mono ?_
    rintro e w2 ⟨rfl, rfl⟩
    go_wp2_with fail
    refine (mul64_mag _ _ _ h0 h1 h2 h3).mono ?_
    rintro e w3 ⟨rfl, rfl⟩
    go_wp2
    go_ret2
    exact ⟨ret_ib M3.out, rfl⟩
  · obtain ⟨m0, m1, m2, m3⟩ := fit_same hf (sign_same (by simp [c1, c2]))
    have d1 : decide (a < 0) = false := by simp [c1]
    have d2 : decide (b < 0) = false := by simp [c2]
    have M3 := Lib.hid m3
    clear m3 hf
    go_enter Try.func20, Try.ntmps20
    go_wp2_with fail
    refine (magnitude_any _ _ h0 h1).mono ?_
    rintro e w1 ⟨rfl, rfl⟩
    go_wp2_with fail
    refine (magnitude_any _ _ h2 h3).mono ?_
    rintro e w2 ⟨rfl, rfl⟩
    go_wp2_with fail
    refine (mul64_mag _ _ _ h0 h1 h2 h3).mono ?_
    rintro e w3 ⟨rfl, rfl⟩
    go_wp2
    go_ret2
    exact ⟨ret_ib M3.out, rfl⟩

set_option maxHeartbeats 400000 in
theorem rmul_no (a b : Int) (w : World) (h0 : -9223372036854775808 ≤ a) (h1 : a ≤ 9223372036854775807) (h2 : -9223372036854775808 ≤ b) (h3 : b ≤ 9223372036854775807) (hf : ¬ Fit (a * b)) :
    Calls Try.prog 20 #[.int .i64 a, .int .i64 b] w fun e w' => e = .returned (.tuple #[.int .i64 0, .bool false]) ∧ w = w' := by
  by_cases c1 : a < 0 <;> by_cases c2 : b < 0
  · have d1 : decide (a < 0) = true := by simp [c1]
    have d2 : decide (b < 0) = true := by simp [c2]
    have hu := unfit_same hf (sign_same (by simp [c1, c2]))
    clear hf
    by_cases m0 : mh (a * b) = 0
    · have m1 := hu.resolve_left (fun h => h m0)
      clear hu
      go_enter Try.func20, Try.ntmps20
      go_wp2_with fail
      refine (magnitude_any _ _ h0 h1).mono ?_
      rintro e w1 ⟨rfl, rfl⟩
      go_wp2_with fail
      refine (magnitude_any _ _ h2 h3).mono ?_
      rintro e w2 ⟨rfl, rfl⟩
      go_wp2_with fail
      refine (mul64_mag _ _ _ h0 h1 h2 h3).mono ?_
      rintro e w3 ⟨rfl, rfl⟩
      go_wp2
      go_ret2
      exact ⟨rfl, rfl⟩
    · have m2 : (mh (a * b) != 0) = true := by simpa using m0
      clear hu
      go_enter Try.func20, Try.ntmps20
      go_wp2_with fail
      refine (magnitude_any _ _ h0 h1).mono ?_
      rintro e w1 ⟨rfl, rfl⟩
      go_wp2_with fail
      refine (magnitude_any _ _ h2 h3).mono ?_
      rintro e w2 ⟨rfl, rfl⟩
      go_wp2_with fail
      refine (mul64_mag _ _ _ h0 h1 h2 h3).mono ?_
      rintro e w3 ⟨rfl, rfl⟩
      go_wp2
      go_ret2
      exact ⟨rfl, rfl⟩
  · have d1 : decide (a < 0) = true := by simp [c1]
    have d2 : decide (b < 0) = false := by simp [c2]
    have hu := unfit_diff hf (sign_diff (by simp [c1, c2]))
    clear hf
    by_cases m0 : mh (a * b) = 0
    · have m1 := hu.resolve_left (fun h => h m0)
      clear hu
      go_enter Try.func20, Try.ntmps20
      go_wp2_with fail
      refine (magnitude_any _ _ h0 h1).mono ?_
      rintro e w1 ⟨rfl, rfl⟩
      go_wp2_with fail
      refine (magnitude_any _ _ h2 h3).mono ?_
      rintro e w2 ⟨rfl, rfl⟩
      go_wp2_with fail
      refine (mul64_mag _ _ _ h0 h1 h2 h3).mono ?_
      rintro e w3 ⟨rfl, rfl⟩
      go_wp2
      go_ret2
      exact ⟨rfl, rfl⟩
    · have m2 : (mh (a * b) != 0) = true := by simpa using m0
      clear hu
      go_enter Try.func20, Try.ntmps20
      go_wp2_with fail
      refine (magnitude_any _ _ h0 h1).mono ?_
      rintro e w1 ⟨rfl, rfl⟩
      go_wp2_with fail
      refine (magnitude_any _ _ h2 h3).mono ?_
      rintro e w2 ⟨rfl, rfl⟩
      go_wp2_with fail
      refine (mul64_mag _ _ _ h0 h1 h2 h3).mono ?_
      rintro e w3 ⟨rfl, rfl⟩
      go_wp2
      go_ret2
      exact ⟨rfl, rfl⟩
  · have d1 : decide (a < 0) = false := by simp [c1]
    have d2 : decide (b < 0) = true := by simp [c2]
    have hu := unfit_diff hf (sign_diff (by simp [c1, c2]))
    clear hf
    by_cases m0 : mh (a * b) = 0
    · have m1 := hu.resolve_left (fun h => h m0)
      clear hu
      go_enter Try.func20, Try.ntmps20
      go_wp2_with fail
      refine (magnitude_any _ _ h0 h1).mono ?_
      rintro e w1 ⟨rfl, rfl⟩
      go_wp2_with fail
      refine (magnitude_any _ _ h2 h3).mono ?_
      rintro e w2 ⟨rfl, rfl⟩
      go_wp2_with fail
      refine (mul64_mag _ _ _ h0 h1 h2 h3).mono ?_
      rintro e w3 ⟨rfl, rfl⟩
      go_wp2
      go_ret2
      exact ⟨rfl, rfl⟩
    · have m2 : (mh (a * b) != 0) = true := by simpa using m0
      clear hu
      go_enter Try.func20, Try.ntmps20
      go_wp2_with fail
      refine (magnitude_any _ _ h0 h1).mono ?_
      rintro e w1 ⟨rfl, rfl⟩
      go_wp2_with fail
      refine (magnitude_any _ _ h2 h3).mono ?_
      rintro e w2 ⟨rfl, rfl⟩
      go_wp2_with fail
      refine (mul64_mag _ _ _ h0 h1 h2 h3).mono ?_
      rintro e w3 ⟨rfl, rfl⟩
      go_wp2
      go_ret2
      exact ⟨rfl, rfl⟩
  · have d1 : decide (a < 0) = false := by simp [c1]
    have d2 : decide (b < 0) = false := by simp [c2]
    have hu := unfit_same hf (sign_same (by simp [c1, c2]))
    clear hf
    by_cases m0 : mh (a * b) = 0
    · have m1 := hu.resolve_left (fun h => h m0)
      clear hu
      go_enter Try.func20, Try.ntmps20
      go_wp2_with fail
      refine (magnitude_any _ _ h0 h1).mono ?_
      rintro e w1 ⟨rfl, rfl⟩
      go_wp2_with fail
      refine (magnitude_any _ _ h2 h3).mono ?_
      rintro e w2 ⟨rfl, rfl⟩
      go_wp2_with fail
      refine (mul64_mag _ _ _ h0 h1 h2 h3).mono ?_
      rintro e w3 ⟨rfl, rfl⟩
      go_wp2
      go_ret2
      exact ⟨rfl, rfl⟩
    · have m2 : (mh (a * b) != 0) = true := by simpa using m0
      clear hu
      go_enter Try.func20, Try.ntmps20
      go_wp2_with fail
      refine (magnitude_any _ _ h0 h1).mono ?_
      rintro e w1 ⟨rfl, rfl⟩
      go_wp2_with fail
      refine (magnitude_any _ _ h2 h3).mono ?_
      rintro e w2 ⟨rfl, rfl⟩
      go_wp2_with fail
      refine (mul64_mag _ _ _ h0 h1 h2 h3).mono ?_
      rintro e w3 ⟨rfl, rfl⟩
      go_wp2
      go_ret2
      exact ⟨rfl, rfl⟩

end Go.Proofs.Ytkmapegglgcfnaa
