/- Contract of Gcd: the loop of Euclid ends with the greatest number that divides both. -/
import Derived.Test.YtbimaaknjedonaaW2
import Derived.LoopTactic
namespace Go.Proofs.Ytbimaaknjedonaa
open Go.RowKit
set_option linter.unusedVariables false

/-- What holds at each round's head of Euclid's loop. -/
def Euclid (k : IntKind) (a b : Int) (w : World) (x y : Value) (wr : World) : Prop :=
  ∃ m n : Nat, x = .int k m ∧ y = .int k n ∧ Nat.gcd n m = Nat.gcd b.natAbs a.natAbs ∧ m ≤ 9223372036854775808 ∧ n ≤ 9223372036854775808 ∧ Grown w wr

theorem euclid_step {a b : Int} {m n : Nat} (h : Nat.gcd n m = Nat.gcd b.natAbs a.natAbs) : Nat.gcd (m % n) n = Nat.gcd b.natAbs a.natAbs := by
  rw [← h, Nat.gcd_rec n m]
theorem euclid_end {a b : Int} {m : Nat} (h : Nat.gcd 0 m = Nat.gcd b.natAbs a.natAbs) : Int.gcd a b = m := by
  rw [Nat.gcd_zero_left] at h
  unfold Int.gcd
  rw [h, Nat.gcd_comm]

/-- What Gcd answers: nought where it would be no number of 64 bits. -/
def gcdV (a b : Int) : Int := if (Int.gcd a b : Int) ≤ 9223372036854775807 then (Int.gcd a b : Int) else 0

set_option maxHeartbeats 400000 in
theorem gcd_any (a b : Int) (w : World) (h0 : -9223372036854775808 ≤ a) (h1 : a ≤ 9223372036854775807) (h2 : -9223372036854775808 ≤ b) (h3 : b ≤ 9223372036854775807) :
    Calls Try.prog 35 #[.int .i64 a, .int .i64 b] w fun e w' => e = .returned (.int .i64 (gcdV a b)) ∧ Grown w w' := by
  have ba := natAbs_bd h0 h1
  have bb := natAbs_bd h2 h3
  go_enter Try.func35, Try.ntmps35
  go_wp2_with fail
  refine (size_any _ _ h0 h1).mono ?_
  rintro e w1 ⟨rfl, rfl⟩
  go_wp2_with fail
  refine (size_any _ _ h2 h3).mono ?_
  rintro e w2 ⟨rfl, rfl⟩
  go_wp2
  go_loopw [5, 6] (fun x y wr => Euclid .u64 a b w x y wr) (fun _ y _ => (intOf y).toNat)
  case atStart => exact ⟨_, _, rfl, rfl, rfl, ba, bb, Grown.refl _⟩
  case round =>
    obtain ⟨m, n, rfl, rfl, hg, hm, hn, hw⟩ := hrel
    have HG := Lib.hid hg
    clear hg
    by_cases hz : n = 0
    · subst hz
      have he := euclid_end HG.out
      clear HG
      by_cases hbig : m ≤ 9223372036854775807
      · have HF : Hid ((m : Int) = gcdV a b) := by show _ = _; unfold gcdV; rw [he, if_pos (by omega)]
        clear he
        go_wp2
        go_ret
        exact ⟨ret_int HF.out, hw⟩
      · have HF : Hid ((0 : Int) = gcdV a b) := by show _ = _; unfold gcdV; rw [he, if_neg (by omega)]
        clear he
        go_wp2
        go_ret
        exact ⟨ret_int HF.out, hw⟩
    · have hz1 : ((n : Int) != 0) = true := by simpa using hz
      have hz2 : ¬ (n : Int) = 0 := by omega
      go_wp2
      go_region
      go_roundw
      case rel => exact ⟨_, _, _, _, _, _, _, _, ⟨n, m % n, rfl, rfl, euclid_step HG.out, hn, Nat.le_trans (Nat.mod_le _ _) hm, hw.drew⟩, rfl⟩
      case measure => simp [intOf]; have := Nat.mod_lt m (Nat.pos_of_ne_zero hz); omega
end Go.Proofs.Ytbimaaknjedonaa
