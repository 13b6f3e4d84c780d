/- Contracts of Gcd and Mul as calls that only draw or only reckon; of ratio's May. -/
import Derived.Test.YtbimaaknjedonaaR2
import Derived.Test.YtbimaaknjedonaaRatA
import Derived.Test.YtbimaaknjedonaaGcds
import Derived.Deep.QuietTactic
import Derived.BigQuiet
namespace Go.Proofs.Ytbimaaknjedonaa
open Go.RowKit
set_option linter.unusedVariables false

def EuclidQ (k : IntKind) (a b : Int) (w : World) (x y : Value) (wr : World) : Prop :=
  ∃ m n : Nat, x = .int k m ∧ y = .int k n ∧ Nat.gcd n m = Nat.gcd b.natAbs a.natAbs ∧ m ≤ 9223372036854775808 ∧ n ≤ 9223372036854775808 ∧ ∃ j, wr = w.drewN j

theorem drewN_zero (w : World) : w = w.drewN 0 := by simp [World.drewN]
theorem drewN_more {w wr : World} (h : ∃ j, wr = w.drewN j) : ∃ j, wr.drew = w.drewN j := by
  obtain ⟨j, rfl⟩ := h
  exact ⟨j + 1, by simp [World.drewN, World.drew]; try omega⟩

set_option maxHeartbeats 400000 in
theorem gcd_q (a b : Int) (w : World) (h0 : -9223372036854775808 ≤ a) (h1 : a ≤ 9223372036854775807) (h2 : -9223372036854775808 ≤ b) (h3 : b ≤ 9223372036854775807) :
    Calls Try.prog 35 #[.int .i64 a, .int .i64 b] w fun e w' => e = .returned (.int .i64 (gcdV a b)) ∧ ∃ j, w' = w.drewN j := by
  have ba := natAbs_bd h0 h1
  have bb := natAbs_bd h2 h3
  go_enter Try.func35, Try.ntmps35
  go_wp2_with fail
  refine (size_any _ _ h0 h1).mono ?_
  rintro e w1 ⟨rfl, rfl⟩
  go_wp2_with fail
  refine (size_any _ _ h2 h3).mono ?_
  rintro e w2 ⟨rfl, rfl⟩
  go_wp2
  go_loopw [5, 6] (fun x y wr => EuclidQ .u64 a b w x y wr) (fun _ y _ => (intOf y).toNat)
  case atStart => exact ⟨_, _, rfl, rfl, rfl, ba, bb, 0, drewN_zero w⟩
  case round =>
    obtain ⟨m, n, rfl, rfl, hg, hm, hn, hw⟩ := hrel
    have HG := Lib.hid hg
    have HW := Lib.hid hw
    clear hg hw
    by_cases hz : n = 0
    · subst hz
      have he := euclid_end HG.out
      clear HG
      by_cases hbig : m ≤ 9223372036854775807
      · have HF : Hid ((m : Int) = gcdV a b) := by show _ = _; unfold gcdV; rw [he, if_pos (by omega)]
        clear he
        go_wp2
        go_ret
        exact ⟨ret_int HF.out, HW.out⟩
      · have HF : Hid ((0 : Int) = gcdV a b) := by show _ = _; unfold gcdV; rw [he, if_neg (by omega)]
        clear he
        go_wp2
        go_ret
        exact ⟨ret_int HF.out, HW.out⟩
    · have hz1 : ((n : Int) != 0) = true := by simpa using hz
      have hz2 : ¬ (n : Int) = 0 := by omega
      go_wp2
      go_region
      go_roundw
      case rel => exact ⟨_, _, _, _, _, _, _, _, ⟨n, m % n, rfl, rfl, euclid_step HG.out, hn, Nat.le_trans (Nat.mod_le _ _) hm, drewN_more HW.out⟩, rfl⟩
      case measure => simp [intOf]; have := Nat.mod_lt m (Nat.pos_of_ne_zero hz); omega

set_option maxHeartbeats 400000 in
theorem mulq_ok (a b : Int) (w : World) (h0 : -9223372036854775808 ≤ a) (h1 : a ≤ 9223372036854775807) (h2 : -9223372036854775808 ≤ b) (h3 : b ≤ 9223372036854775807) (hf : Fit (a * b)) :
    Calls Try.prog 34 #[.int .i64 a, .int .i64 b] w fun e w' => e = .returned (.tuple #[.int .i64 (a * b), .int .i64 0]) ∧ w = w' := by
  obtain ⟨ht, he⟩ := mul_test_ok hf
  have HE := Lib.hid he
  clear he
  go_enter Try.func34, Try.ntmps34
  go_wp2_with fail
  refine (product_any _ _ _ h0 h1 h2 h3).mono ?_
  rintro e w1 ⟨rfl, rfl⟩
  go_wp2
  go_ret2
  exact ⟨ret_two HE.out rfl, rfl⟩

set_option maxHeartbeats 400000 in
theorem mulq_no (a b : Int) (w : World) (h0 : -9223372036854775808 ≤ a) (h1 : a ≤ 9223372036854775807) (h2 : -9223372036854775808 ≤ b) (h3 : b ≤ 9223372036854775807) (hf : ¬ Fit (a * b)) :
    Calls Try.prog 34 #[.int .i64 a, .int .i64 b] w fun e w' => e = .returned (.tuple #[.int .i64 0, .int .i64 14]) ∧ w = w' := by
  have ht := mul_test_no (mul_bd h0 h1 h2 h3) hf
  clear hf
  go_enter Try.func34, Try.ntmps34
  go_wp2_with fail
  refine (product_any _ _ _ h0 h1 h2 h3).mono ?_
  rintro e w1 ⟨rfl, rfl⟩
  go_wp2
  go_ret2
  exact ⟨rfl, rfl⟩

theorem gcd_int {a b : Int} (hb : 0 < b) (h3 : b ≤ 9223372036854775807) : gcdV a b = (Int.gcd a b : Int) ∧ 0 < gcdV a b ∧ gcdV a b ≤ b := by
  have hle : Int.gcd a b ≤ b.natAbs := Nat.gcd_le_right _ (by omega)
  have hpos : 0 < Int.gcd a b := Nat.gcd_pos_of_pos_right _ (by omega)
  have e : gcdV a b = Int.gcd a b := by unfold gcdV; rw [if_pos (by omega)]
  exact ⟨e, by omega, by omega⟩

/-- A pair of numbers that is a fraction in lowest terms. -/
def MayR (n d : Int) : Prop := 0 < d ∧ Int.gcd n d = 1

set_option maxHeartbeats 400000 in
theorem may_yes (n d : Int) (w : World) (h0 : -9223372036854775808 ≤ n) (h1 : n ≤ 9223372036854775807) (h2 : -9223372036854775808 ≤ d) (h3 : d ≤ 9223372036854775807) (hm : MayR n d) :
    Calls Try.prog 36 #[.agg #[.int .i64 n, .int .i64 d]] w fun e w' => e = .returned (.bool true) ∧ Grown w w' := by
  obtain ⟨m1, m2⟩ := hm
  obtain ⟨g1, g2, g3⟩ := gcd_int (a := n) m1 h3
  have t1 : decide (0 < d) = true := by simp [m1]
  have t2 : (gcdV n d == 1) = true := by rw [g1, m2]; rfl
  clear g1 m2
  go_enter Try.func36, Try.ntmps36
  go_wp2_with fail
  refine (gcd_any _ _ _ h0 h1 h2 h3).mono ?_
  rintro e w1 ⟨rfl, k1⟩
  go_wp2
  go_ret
  exact ⟨rfl, grown_trans ((Grown.refl _).alloc _ _) k1⟩

set_option maxHeartbeats 400000 in
theorem may_no (n d : Int) (w : World) (h0 : -9223372036854775808 ≤ n) (h1 : n ≤ 9223372036854775807) (h2 : -9223372036854775808 ≤ d) (h3 : d ≤ 9223372036854775807) (hm : ¬ MayR n d) :
    Calls Try.prog 36 #[.agg #[.int .i64 n, .int .i64 d]] w fun e w' => e = .returned (.bool false) ∧ Grown w w' := by
  by_cases m1 : 0 < d
  · obtain ⟨g1, g2, g3⟩ := gcd_int (a := n) m1 h3
    have t1 : decide (0 < d) = true := by simp [m1]
    have t2 : (gcdV n d == 1) = false := by
      simp only [beq_eq_false_iff_ne, ne_eq]
      intro e
      exact hm ⟨m1, by omega⟩
    clear g1 hm
    go_enter Try.func36, Try.ntmps36
    go_wp2_with fail
    refine (gcd_any _ _ _ h0 h1 h2 h3).mono ?_
    rintro e w1 ⟨rfl, k1⟩
    go_wp2
    go_ret
    exact ⟨rfl, grown_trans ((Grown.refl _).alloc _ _) k1⟩
  · have t1 : decide (0 < d) = false := by simp; omega
    clear hm
    go_enter Try.func36, Try.ntmps36
    go_wp2
    go_ret
    exact ⟨rfl, (Grown.refl _).alloc _ _⟩
end Go.Proofs.Ytbimaaknjedonaa
