/- Plain facts on the long division by half words (math/bits.Div64): no Go in sight. -/
import Derived.Lib.ItoaNum
import Derived.Shelf.Bits.Mul64
namespace Go.Proofs.Ytbimaaknjedonaa
set_option linter.unusedVariables false

/-- One step of the long division: half a word more of the dividend. -/
theorem step_le {u v y1 y0 : Nat} (h1 : 0 < y1) (hv : v < 4294967296) : (u * 4294967296 + v) / (y1 * 4294967296 + y0) ≤ u / y1 := by
  rw [Nat.le_div_iff_mul_le h1]
  have h := Nat.div_mul_le_self (u * 4294967296 + v) (y1 * 4294967296 + y0)
  generalize (u * 4294967296 + v) / (y1 * 4294967296 + y0) = q at *
  have e : q * (y1 * 4294967296 + y0) = q * y1 * 4294967296 + q * y0 := by rw [Nat.mul_add, Nat.mul_assoc]
  rw [e] at h
  omega
theorem step_lt {u v y : Nat} (hu : u < y) (hv : v < 4294967296) : (u * 4294967296 + v) / y < 4294967296 := by
  rw [Nat.div_lt_iff_lt_mul (by omega)]
  have : (u + 1) * 4294967296 ≤ y * 4294967296 := Nat.mul_le_mul_right _ hu
  omega
/-- The test of the loop says whether the guess is too great. -/
theorem step_test {u v y1 y0 k r : Nat} (h1 : 0 < y1) (e : k * y1 + r = u) : 4294967296 * r + v < k * y0 ↔ (u * 4294967296 + v) / (y1 * 4294967296 + y0) < k := by
  rw [Nat.div_lt_iff_lt_mul (by omega), ← e, Nat.mul_add]
  have : k * (y1 * 4294967296) = k * y1 * 4294967296 := by rw [Nat.mul_assoc]
  rw [this]
  generalize k * y1 = a
  generalize k * y0 = b
  omega
theorem step_small {u v y1 y0 k r : Nat} (h1 : 0 < y1) (h0 : y0 < 4294967296) (hu : u < y1 * 4294967296 + y0) (e : k * y1 + r = u) (hr : 4294967296 ≤ r) : k ≤ (u * 4294967296 + v) / (y1 * 4294967296 + y0) := by
  have hk : k < 4294967296 := by
    rcases Nat.lt_or_ge k 4294967296 with c | c
    · exact c
    · have := Nat.mul_le_mul_right y1 c
      omega
  have : ¬ 4294967296 * r + v < k * y0 := by
    have := Nat.mul_le_mul (Nat.le_of_lt hk) (Nat.le_of_lt h0)
    omega
  rw [step_test (v := v) h1 e] at this
  omega
theorem step_bd {u y1 k r : Nat} (h1 : 2147483648 ≤ y1) (hu : u < 18446744073709551616) (e : k * y1 + r = u) : k ≤ 8589934592 := by
  rcases Nat.lt_or_ge 8589934592 k with c | c
  · have := Nat.mul_le_mul c h1
    omega
  · exact c
theorem step_mul {k y0 : Nat} (hk : k < 4294967296) (h0 : y0 < 4294967296) : k * y0 < 18446744073709551616 := by
  have := Nat.mul_le_mul (show k ≤ 4294967295 by omega) (show y0 ≤ 4294967295 by omega)
  omega

/-- Two steps make the whole. -/
theorem two_aux {y n v q r B : Nat} (hy : 0 < y) (h : y * q + r = n) : (n * B + v) / y = q * B + (r * B + v) / y ∧ (n * B + v) % y = (r * B + v) % y := by
  have e : n * B + v = (r * B + v) + y * (q * B) := by
    rw [← h, Nat.add_mul, Nat.mul_assoc]; omega
  rw [e, Nat.add_mul_div_left _ _ hy, Nat.add_mul_mod_self_left]
  exact ⟨by omega, rfl⟩
theorem two_steps {y u v1 v0 : Nat} (hy : 0 < y) :
    ((u * 4294967296 + v1) * 4294967296 + v0) / y = (u * 4294967296 + v1) / y * 4294967296 + ((u * 4294967296 + v1) % y * 4294967296 + v0) / y ∧ ((u * 4294967296 + v1) * 4294967296 + v0) % y = ((u * 4294967296 + v1) % y * 4294967296 + v0) % y :=
  two_aux hy (Nat.div_add_mod _ y)

/-- The dividend and the divisor shifted to the left. -/
theorem shifted {h l y : Nat} (s : Nat) (hs : s ≤ 64) : h * 2 ^ s + l / 2 ^ (64 - s) = (h * 18446744073709551616 + l) * 2 ^ s / 18446744073709551616 ∧ l * 2 ^ s % 18446744073709551616 = (h * 18446744073709551616 + l) * 2 ^ s % 18446744073709551616 ∧ (h * 18446744073709551616 + l) * 2 ^ s / (y * 2 ^ s) = (h * 18446744073709551616 + l) / y ∧ (h * 18446744073709551616 + l) * 2 ^ s % (y * 2 ^ s) / 2 ^ s = (h * 18446744073709551616 + l) % y := by
  have hp : 0 < 2 ^ s := Nat.two_pow_pos s
  have e64 : (18446744073709551616 : Nat) = 2 ^ (64 - s) * 2 ^ s := by rw [← Nat.pow_add, Nat.sub_add_cancel hs]
  have e : (h * 18446744073709551616 + l) * 2 ^ s = l * 2 ^ s + 18446744073709551616 * (h * 2 ^ s) := by
    rw [Nat.add_mul, Nat.mul_comm h, Nat.mul_assoc]; omega
  refine ⟨?_, ?_, Nat.mul_div_mul_right _ _ hp, ?_⟩
  · rw [e, Nat.add_mul_div_left _ _ (by omega)]
    have : l * 2 ^ s / 18446744073709551616 = l / 2 ^ (64 - s) := by
      rw [e64, Nat.mul_div_mul_right _ _ hp]
    omega
  · rw [e, Nat.add_mul_mod_self_left]
  · rw [Nat.mul_mod_mul_right, Nat.mul_div_cancel _ hp]

theorem or_add {h l s : Nat} (hl : l < 2 ^ s) : (h * 2 ^ s) ||| l = h * 2 ^ s + l := by
  rw [← Nat.shiftLeft_eq, ← Nat.shiftLeft_add_eq_or_of_lt hl]

theorem norm_facts {y : Nat} (hy : y ≠ 0) (h1 : y < 9223372036854775808) : ∃ s : Nat, (64 - (Lib.bitLen y : Int)) = (s : Int) ∧ 1 ≤ s ∧ s ≤ 63 ∧ 9223372036854775808 ≤ y * 2 ^ s ∧ y * 2 ^ s < 18446744073709551616 := by
  obtain ⟨b1, b2, b3⟩ := Lib.bitLenAux_bounds 64 y (by omega) hy
  have b4 := Lib.bitLen_le y 63 (by omega) h1
  have e : Lib.bitLenAux 64 y = Lib.bitLen y := rfl
  rw [e] at b1 b2 b3
  generalize Lib.bitLen y = b at *
  refine ⟨64 - b, by omega, by omega, by omega, ?_, ?_⟩
  · have h := Nat.mul_le_mul_right (2 ^ (64 - b)) b2
    rw [← Nat.pow_add] at h
    have : b - 1 + (64 - b) = 63 := by omega
    rw [this] at h
    exact h
  · have h := Nat.mul_lt_mul_of_pos_right b3 (Nat.two_pow_pos (64 - b))
    rw [← Nat.pow_add] at h
    have : b + (64 - b) = 64 := by omega
    rw [this] at h
    exact h

theorem mask_nat (a : Nat) (ha : a < 18446744073709551616) : bits .and .u64 (a : Int) 4294967295 = ((a % 4294967296 : Nat) : Int) := Mul64.maskN a ha

/-- The first guess of a step. -/
structure Step (u y1 Q M R : Nat) : Prop where
  eQ : (u : Int) / (y1 : Int) = (Q : Int)
  eQ' : IntKind.u64.wrap (Q : Int) = (Q : Int)
  eM : IntKind.u64.wrap ((Q : Int) * (y1 : Int)) = (M : Int)
  eR : IntKind.u64.wrap ((u : Int) - (M : Int)) = (R : Int)
  qR : Q * y1 + R = u
  r1 : R < y1
theorem step {u y1 : Nat} (hu : u < 18446744073709551616) (h1 : 0 < y1) : ∃ Q M R, Step u y1 Q M R := by
  have hdm := Nat.div_add_mod u y1
  have hle : u / y1 * y1 ≤ u := Nat.div_mul_le_self _ _
  have hq : u / y1 ≤ u := Nat.div_le_self _ _
  have e : u = u / y1 * y1 + u % y1 := by rw [Nat.mul_comm]; exact hdm.symm
  refine ⟨u / y1, u / y1 * y1, u % y1, ?_⟩
  exact {
    eQ := by rw [← Int.natCast_ediv]
    eQ' := Mul64.wrapN _ (by omega)
    eM := by rw [← Int.natCast_mul]; exact Mul64.wrapN _ (by omega)
    eR := by
      have : (u : Int) - ((u / y1 * y1 : Nat) : Int) = ((u % y1 : Nat) : Int) := by omega
      rw [this]; exact Mul64.wrapN _ (by omega)
    qR := by rw [Nat.mul_comm]; exact hdm
    r1 := Nat.mod_lt _ h1 }

/-- What the division has made ready ahead of its two steps. -/
structure Ready (h l y s Y Y1 Y0 H L U V V1 V0 : Nat) : Prop where
  eY : IntKind.u64.wrap ((y : Int) * 2 ^ s) = (Y : Int)
  eY1 : (Y : Int) / 4294967296 = (Y1 : Int)
  eY0 : bits .and .u64 (Y : Int) 4294967295 = (Y0 : Int)
  eH : IntKind.u64.wrap ((h : Int) * 2 ^ s) = (H : Int)
  eL : (l : Int) / 2 ^ (64 - s) = (L : Int)
  eU : bits .or .u64 (H : Int) (L : Int) = (U : Int)
  eV : IntKind.u64.wrap ((l : Int) * 2 ^ s) = (V : Int)
  eV1 : (V : Int) / 4294967296 = (V1 : Int)
  eV0 : bits .and .u64 (V : Int) 4294967295 = (V0 : Int)
  y1 : 2147483648 ≤ Y1
  y1' : Y1 < 4294967296
  y0 : Y0 < 4294967296
  hY : Y = Y1 * 4294967296 + Y0
  hU : U < Y
  hYn : Y < 18446744073709551616
  v1 : V1 < 4294967296
  v0 : V0 < 4294967296
  quo : (h * 18446744073709551616 + l) / y = (U * 4294967296 + V1) / Y * 4294967296 + ((U * 4294967296 + V1) % Y * 4294967296 + V0) / Y
  rem : (h * 18446744073709551616 + l) % y = ((U * 4294967296 + V1) % Y * 4294967296 + V0) % Y / 2 ^ s

theorem wrap_nat {a : Nat} (h : a < 18446744073709551616) : IntKind.u64.wrap (a : Int) = (a : Int) := Mul64.wrapN a h
theorem pow_nat (s : Nat) : ((2 : Int) ^ s) = ((2 ^ s : Nat) : Int) := by simp

theorem ready {h l y s : Nat} (hy : y < 9223372036854775808) (hh : h < y) (hl : l < 18446744073709551616) (s1 : 1 ≤ s) (s2 : s ≤ 63) (n1 : 9223372036854775808 ≤ y * 2 ^ s) (n2 : y * 2 ^ s < 18446744073709551616) :
    ∃ Y Y1 Y0 H L U V V1 V0 : Nat, Ready h l y s Y Y1 Y0 H L U V V1 V0 := by
  have hp : 0 < 2 ^ s := Nat.two_pow_pos s
  have hhs : h * 2 ^ s < y * 2 ^ s := Nat.mul_lt_mul_of_pos_right hh hp
  obtain ⟨f1, f2, f3, f4⟩ := shifted (h := h) (l := l) (y := y) s (by omega)
  have hL : l / 2 ^ (64 - s) < 2 ^ s := by
    rw [Nat.div_lt_iff_lt_mul (Nat.two_pow_pos _), ← Nat.pow_add]
    have : s + (64 - s) = 64 := by omega
    rw [this]; exact hl
  have hsum : h * 2 ^ s + l / 2 ^ (64 - s) < y * 2 ^ s := by
    have := Nat.mul_le_mul_right (2 ^ s) (show h + 1 ≤ y by omega)
    rw [Nat.add_mul] at this
    omega
  have hor : bits .or .u64 ((h * 2 ^ s : Nat) : Int) ((l / 2 ^ (64 - s) : Nat) : Int) = ((h * 2 ^ s + l / 2 ^ (64 - s) : Nat) : Int) := by
    rw [bits_or_u64_nat _ _ (by omega) (by omega), or_add hL]
  obtain ⟨Y, hYd⟩ : ∃ Y, Y = y * 2 ^ s := ⟨_, rfl⟩
  obtain ⟨U, hUd⟩ : ∃ U, U = h * 2 ^ s + l / 2 ^ (64 - s) := ⟨_, rfl⟩
  obtain ⟨V, hVd⟩ : ∃ V, V = l * 2 ^ s % 18446744073709551616 := ⟨_, rfl⟩
  have hV : V < 18446744073709551616 := by rw [hVd]; exact Nat.mod_lt _ (by omega)
  have hUY : U < Y := by rw [hUd, hYd]; exact hsum
  have hYn : Y < 18446744073709551616 := by rw [hYd]; exact n2
  have hYm : 9223372036854775808 ≤ Y := by rw [hYd]; exact n1
  have whole : (U * 4294967296 + V / 4294967296) * 4294967296 + V % 4294967296 = (h * 18446744073709551616 + l) * 2 ^ s := by
    have e := Nat.div_add_mod ((h * 18446744073709551616 + l) * 2 ^ s) 18446744073709551616
    rw [← f1, ← f2, ← hUd, ← hVd] at e
    omega
  have two := two_steps (y := Y) (u := U) (v1 := V / 4294967296) (v0 := V % 4294967296) (by omega)
  rw [whole] at two
  refine ⟨Y, Y / 4294967296, Y % 4294967296, h * 2 ^ s, l / 2 ^ (64 - s), U, V, V / 4294967296, V % 4294967296, ?_⟩
  exact {
    eY := by rw [pow_nat, ← Int.natCast_mul, hYd]; exact wrap_nat n2
    eY1 := by omega
    eY0 := mask_nat Y hYn
    eH := by rw [pow_nat, ← Int.natCast_mul]; exact wrap_nat (by omega)
    eL := by rw [pow_nat, ← Int.natCast_ediv]
    eU := by rw [hUd]; exact hor
    eV := by rw [pow_nat, ← Int.natCast_mul, hVd]; exact Mul64.wrapM _
    eV1 := by omega
    eV0 := mask_nat V hV
    y1 := by omega
    y1' := by omega
    y0 := by omega
    hY := by omega
    hU := hUY
    hYn := hYn
    v1 := by omega
    v0 := by omega
    quo := by rw [← f3, ← hYd]; exact two.1
    rem := by rw [← two.2, hYd]; exact f4.symm }

theorem guess_start {u v y1 y0 Q M R : Nat} (h1 : 0 < y1) (h1' : y1 < 4294967296) (hv : v < 4294967296) (st : Step u y1 Q M R) : Q * y1 + R = u ∧ (u * 4294967296 + v) / (y1 * 4294967296 + y0) ≤ Q ∧ R < 4294967296 := by
  refine ⟨st.qR, ?_, by have := st.r1; omega⟩
  have h := step_le (u := u) (v := v) (y1 := y1) (y0 := y0) h1 hv
  have e : Q = u / y1 := by
    have := st.eQ
    rw [← Int.natCast_ediv] at this
    omega
  rw [e]; exact h

/-- What is left behind a step: within the words it is the remainder. -/
theorem step_rest {u v y : Nat} (hv : v < 4294967296) (hy0 : 0 < y) (hy : y < 18446744073709551616) :
    IntKind.u64.wrap (IntKind.u64.wrap (IntKind.u64.wrap ((u : Int) * 4294967296) + (v : Int)) - IntKind.u64.wrap (((u * 4294967296 + v) / y : Nat) * (y : Int))) = (((u * 4294967296 + v) % y : Nat) : Int) := by
  have h := Nat.div_add_mod (u * 4294967296 + v) y
  have hm := Nat.mod_lt (u * 4294967296 + v) hy0
  rw [← Int.natCast_mul]
  rw [Nat.mul_comm] at h
  have e : u * 4294967296 = u * 4294967296 := rfl
  generalize (u * 4294967296 + v) / y * y = a at *
  generalize (u * 4294967296 + v) % y = b at *
  simp only [IntKind.wrap_u64]
  omega

/-- A round of the loop: the guess is too great just if the test says so; where what is left is great it is right. -/
theorem guess_low {u v y1 y0 k r : Nat} (h1 : 0 < y1) (hu : u < y1 * 4294967296 + y0) (hv : v < 4294967296) (e : k * y1 + r = u) (t : 4294967296 ≤ k ∨ 4294967296 * r + v < k * y0) : (u * 4294967296 + v) / (y1 * 4294967296 + y0) ≤ k - 1 ∧ 1 ≤ k ∧ (k - 1) * y1 + (r + y1) = u := by
  have lt : (u * 4294967296 + v) / (y1 * 4294967296 + y0) < k := by
    rcases t with t | t
    · exact Nat.lt_of_lt_of_le (step_lt hu hv) t
    · exact (step_test h1 e).1 t
  have hk : 1 ≤ k := Nat.lt_of_le_of_lt (Nat.zero_le _) lt
  have e' : (k - 1) * y1 + y1 = k * y1 := by
    obtain ⟨j, rfl⟩ : ∃ j, k = j + 1 := ⟨k - 1, by omega⟩
    rw [Nat.add_mul]; simp
  refine ⟨Nat.le_sub_one_of_lt lt, hk, ?_⟩
  rw [← e, ← e']
  omega
theorem guess_right {u v y1 y0 k r : Nat} (h1 : 0 < y1) (e : k * y1 + r = u) (le : (u * 4294967296 + v) / (y1 * 4294967296 + y0) ≤ k) (t : ¬ 4294967296 * r + v < k * y0) : k = (u * 4294967296 + v) / (y1 * 4294967296 + y0) := by
  rw [step_test h1 e] at t
  omega
theorem guess_break {u v y1 y0 k r : Nat} (h1 : 0 < y1) (h0 : y0 < 4294967296) (hu : u < y1 * 4294967296 + y0) (e : k * y1 + r = u) (le : (u * 4294967296 + v) / (y1 * 4294967296 + y0) ≤ k) (hr : 4294967296 ≤ r) : k = (u * 4294967296 + v) / (y1 * 4294967296 + y0) := by
  have := step_small (v := v) h1 h0 hu e hr
  omega
theorem val_u64 {a b : Int} (h : a = b) : Value.int .u64 a = .int .u64 b := by rw [h]
end Go.Proofs.Ytbimaaknjedonaa
