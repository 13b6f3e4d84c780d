/- Sets of slots as bits of words: plain. -/
import Derived.Laws.Bits64b
import Derived.Lib.TrailingZeros
namespace Go.Proofs.YtlpjojegdnconaaDoor
set_option linter.unusedVariables false

theorem bits_andNot_u64_nat (a b : Nat) (ha : a < 18446744073709551616) (hb : b < 18446744073709551616) :
    bits .andNot .u64 (a : Int) (b : Int) = ((a &&& (18446744073709551615 ^^^ b) : Nat) : Int) := by
  have h1 : (BitVec.ofInt 64 (a : Int)).toNat = a := by
    rw [BitVec.ofInt_natCast, BitVec.toNat_ofNat]; exact Nat.mod_eq_of_lt (by omega)
  have h2 : (BitVec.ofInt 64 (b : Int)).toNat = b := by
    rw [BitVec.ofInt_natCast, BitVec.toNat_ofNat]; exact Nat.mod_eq_of_lt (by omega)
  have hx : a &&& (18446744073709551615 ^^^ b) < 2 ^ 64 := Nat.and_lt_two_pow _ (Nat.xor_lt_two_pow (by omega) (by omega))
  have e : (~~~(BitVec.ofInt 64 (b : Int))).toNat = 18446744073709551615 ^^^ b := by
    rw [← BitVec.allOnes_xor, BitVec.toNat_xor, h2]; rfl
  show IntKind.u64.wrap ((BitVec.ofInt 64 (a : Int) &&& ~~~(BitVec.ofInt 64 (b : Int))).toNat : Int) = _
  rw [BitVec.toNat_and, h1, e, IntKind.wrap_u64]
  omega

/-- The words of a set. -/
structure Bits (F : Nat → Nat) (S : Nat) (free : Nat → Bool) : Prop where
  lt : ∀ k, k < 64 → F k < 18446744073709551616
  slt : S < 18446744073709551616
  bit : ∀ k j, k < 64 → j < 64 → (F k).testBit j = free (64 * k + j)
  some : ∀ k, k < 64 → S.testBit k = (F k != 0)

def upd {α : Type} (f : Nat → α) (k : Nat) (v : α) : Nat → α := fun i => if i = k then v else f i
theorem upd_same {α : Type} (f : Nat → α) (k : Nat) (v : α) : upd f k v k = v := by simp [upd]
theorem upd_other {α : Type} (f : Nat → α) {k i : Nat} (v : α) (h : i ≠ k) : upd f k v i = f i := by simp [upd, h]

theorem two_pow_lt {j : Nat} (h : j < 64) : 2 ^ j < 18446744073709551616 := by
  have := Nat.pow_lt_pow_right (a := 2) (by omega) h
  exact this
theorem or_lt {a b : Nat} (ha : a < 18446744073709551616) (hb : b < 18446744073709551616) : a ||| b < 18446744073709551616 := Nat.or_lt_two_pow (n := 64) ha hb
theorem and_lt {a b : Nat} (ha : a < 18446744073709551616) : a &&& b < 18446744073709551616 := Nat.lt_of_le_of_lt Nat.and_le_left ha

theorem testBit_one_shift (j i : Nat) : (2 ^ j).testBit i = decide (j = i) := Nat.testBit_two_pow

theorem testBit_not {b i : Nat} (hi : i < 64) : (18446744073709551615 ^^^ b).testBit i = !b.testBit i := by
  rw [Nat.testBit_xor]
  have : (18446744073709551615 : Nat).testBit i = true := by
    rw [show (18446744073709551615 : Nat) = 2 ^ 64 - 1 by decide, Nat.testBit_two_pow_sub_one]; simpa using hi
  rw [this]; simp

theorem ne_zero_of_testBit {x j : Nat} (h : x.testBit j = true) : x ≠ 0 := by
  intro e; rw [e] at h; simp at h
theorem zero_of_no_bit {x : Nat} (hx : x < 18446744073709551616) (h : ∀ j, j < 64 → x.testBit j = false) : x = 0 := by
  refine Nat.eq_of_testBit_eq fun j => ?_
  by_cases hj : j < 64
  · rw [h j hj]; simp
  · rw [Nat.testBit_lt_two_pow (Nat.lt_of_lt_of_le hx (Nat.pow_le_pow_right (n := 2) (by omega) (show 64 ≤ j by omega)))]; simp

/-- A slot more. -/
theorem Bits.add {F : Nat → Nat} {S : Nat} {free : Nat → Bool} (h : Bits F S free) (s : Nat) (hs : s < 4096) :
    Bits (upd F (s / 64) (F (s / 64) ||| 2 ^ (s % 64))) (S ||| 2 ^ (s / 64)) (upd free s true) := by
  have hk : s / 64 < 64 := by omega
  have hj : s % 64 < 64 := by omega
  refine ⟨fun k hk' => ?_, or_lt h.slt (two_pow_lt hk), fun k j hk' hj' => ?_, fun k hk' => ?_⟩
  · by_cases e : k = s / 64
    · subst e; rw [upd_same]; exact or_lt (h.lt _ hk) (two_pow_lt hj)
    · rw [upd_other _ _ e]; exact h.lt k hk'
  · by_cases e : k = s / 64
    · subst e
      rw [upd_same, Nat.testBit_or, h.bit _ _ hk hj', testBit_one_shift]
      by_cases e2 : s % 64 = j
      · rw [show 64 * (s / 64) + j = s by omega, upd_same]; simp [e2]
      · rw [upd_other _ _ (by omega)]; simp [e2]
    · rw [upd_other _ _ e, h.bit k j hk' hj', upd_other _ _ (by omega)]
  · rw [Nat.testBit_or, testBit_one_shift, h.some k hk']
    by_cases e : k = s / 64
    · subst e
      rw [upd_same]
      have : F (s / 64) ||| 2 ^ (s % 64) ≠ 0 := ne_zero_of_testBit (j := s % 64) (by rw [Nat.testBit_or, testBit_one_shift]; simp)
      simp [this]
    · rw [upd_other _ _ e]; simp [Ne.symm e]

/-- A slot less. -/
theorem Bits.remove {F : Nat → Nat} {S : Nat} {free : Nat → Bool} (h : Bits F S free) (s : Nat) (hs : s < 4096) (f' : Nat) (hf : f' = F (s / 64) &&& (18446744073709551615 ^^^ 2 ^ (s % 64))) :
    Bits (upd F (s / 64) f') (if f' = 0 then S &&& (18446744073709551615 ^^^ 2 ^ (s / 64)) else S) (upd free s false) := by
  have hk : s / 64 < 64 := by omega
  have hj : s % 64 < 64 := by omega
  have hb : ∀ j, j < 64 → f'.testBit j = (free (64 * (s / 64) + j) && !decide (s % 64 = j)) := fun j hj' => by
    rw [hf, Nat.testBit_and, h.bit _ _ hk hj', testBit_not hj', testBit_one_shift]
  refine ⟨fun k hk' => ?_, ?_, fun k j hk' hj' => ?_, fun k hk' => ?_⟩
  · by_cases e : k = s / 64
    · subst e; rw [upd_same, hf]; exact and_lt (h.lt _ hk)
    · rw [upd_other _ _ e]; exact h.lt k hk'
  · split
    · exact and_lt h.slt
    · exact h.slt
  · by_cases e : k = s / 64
    · subst e
      rw [upd_same, hb j hj']
      by_cases e2 : s % 64 = j
      · rw [show 64 * (s / 64) + j = s by omega, upd_same]; simp [e2]
      · rw [upd_other _ _ (by omega)]; simp [e2]
    · rw [upd_other _ _ e, h.bit k j hk' hj', upd_other _ _ (by omega)]
  · by_cases e : k = s / 64
    · subst e
      rw [upd_same]
      by_cases z : f' = 0
      · rw [if_pos z, Nat.testBit_and, testBit_not hk, testBit_one_shift, z]; simp
      · rw [if_neg z, h.some _ hk]
        have : F (s / 64) ≠ 0 := fun e => z (by rw [hf, e]; simp)
        rw [show (F (s / 64) != 0) = true from bne_iff_ne.2 this, show (f' != 0) = true from bne_iff_ne.2 z]
    · rw [upd_other _ _ e]
      split
      · rw [Nat.testBit_and, testBit_not hk', testBit_one_shift, h.some k hk']; simp [Ne.symm e]
      · exact h.some k hk'

theorem testBit_mul_pow (k m j : Nat) : (2 ^ k * (2 * m + 1)).testBit j = (decide (k ≤ j) && (2 * m + 1).testBit (j - k)) := by
  rw [Nat.testBit_two_pow_mul]

/-- The lowest bit. -/
theorem ctz_spec {x : Nat} (h0 : x ≠ 0) (hx : x < 18446744073709551616) : Lib.ctz 64 x < 64 ∧ x.testBit (Lib.ctz 64 x) = true ∧ ∀ j, j < Lib.ctz 64 x → x.testBit j = false := by
  unfold Lib.ctz
  rw [if_neg h0]
  obtain ⟨m, e, hk⟩ := Lib.ctzFrom_spec 64 x (Nat.pos_of_ne_zero h0) hx
  refine ⟨hk, ?_, fun j hj => ?_⟩
  · generalize Lib.ctzFrom 64 x = k at e hk
    rw [e, testBit_mul_pow]; simp [Nat.testBit_zero]
  · generalize Lib.ctzFrom 64 x = k at e hk hj
    rw [e, testBit_mul_pow]; simp; omega

/-- The least one. -/
theorem Bits.least {F : Nat → Nat} {S : Nat} {free : Nat → Bool} (h : Bits F S free) (h0 : S ≠ 0) :
    Lib.ctz 64 S < 64 ∧ F (Lib.ctz 64 S) ≠ 0 ∧ Lib.ctz 64 (F (Lib.ctz 64 S)) < 64 ∧ free (Lib.ctz 64 S * 64 + Lib.ctz 64 (F (Lib.ctz 64 S))) = true ∧ ∀ s, s < Lib.ctz 64 S * 64 + Lib.ctz 64 (F (Lib.ctz 64 S)) → free s = false := by
  obtain ⟨a1, a2, a3⟩ := ctz_spec h0 h.slt
  generalize Lib.ctz 64 S = k at a1 a2 a3
  have hF : F k ≠ 0 := by have := h.some k a1; rw [a2] at this; simpa using this.symm
  obtain ⟨b1, b2, b3⟩ := ctz_spec hF (h.lt k a1)
  generalize Lib.ctz 64 (F k) = j at b1 b2 b3
  refine ⟨a1, hF, b1, ?_, fun s hs => ?_⟩
  · rw [h.bit k j a1 b1] at b2; rw [show k * 64 + j = 64 * k + j by omega]; exact b2
  · have hk : s / 64 < 64 := by omega
    have hj : s % 64 < 64 := by omega
    have e := h.bit (s / 64) (s % 64) hk hj
    rw [show 64 * (s / 64) + s % 64 = s by omega] at e
    rw [← e]
    by_cases c : s / 64 < k
    · have := a3 _ c
      rw [h.some _ hk] at this
      have z : F (s / 64) = 0 := by simpa using this
      rw [z]; simp
    · obtain rfl : s / 64 = k := by omega
      exact b3 _ (by omega)
theorem Bits.none {F : Nat → Nat} {free : Nat → Bool} (h : Bits F 0 free) : ∀ s, s < 4096 → free s = false := fun s hs => by
  have hk : s / 64 < 64 := by omega
  have e := h.bit (s / 64) (s % 64) hk (by omega)
  rw [show 64 * (s / 64) + s % 64 = s by omega] at e
  have := h.some _ hk
  have z : F (s / 64) = 0 := by simpa using this.symm
  rw [← e, z]; simp
theorem Bits.has {F : Nat → Nat} {S : Nat} {free : Nat → Bool} (h : Bits F S free) (s : Nat) (hs : s < 4096) : (F (s / 64) &&& 2 ^ (s % 64) != 0) = free s := by
  have hk : s / 64 < 64 := by omega
  have e := h.bit (s / 64) (s % 64) hk (by omega)
  rw [show 64 * (s / 64) + s % 64 = s by omega] at e
  rw [← e]
  cases c : (F (s / 64)).testBit (s % 64)
  · have : F (s / 64) &&& 2 ^ (s % 64) = 0 := by
      refine Nat.eq_of_testBit_eq fun j => ?_
      rw [Nat.testBit_and, testBit_one_shift]
      by_cases q : s % 64 = j
      · subst q; rw [c]; simp
      · simp [q]
    simp [this]
  · have : F (s / 64) &&& 2 ^ (s % 64) ≠ 0 := ne_zero_of_testBit (j := s % 64) (by rw [Nat.testBit_and, testBit_one_shift, c]; simp)
    simpa using this
theorem Bits.start : Bits (fun _ => 0) 0 (fun _ => false) := ⟨fun _ _ => by omega, by omega, fun _ _ _ _ => by simp, fun _ _ => by simp⟩
end Go.Proofs.YtlpjojegdnconaaDoor
