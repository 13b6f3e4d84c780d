/- Plain facts on fractions in lowest terms (Rat): sums, products, quotients as the program reckons them; no Go in sight. -/
import Derived.Test.YtbimaaknjedonaaPlain
namespace Go.Proofs.Ytbimaaknjedonaa
set_option linter.unusedVariables false

theorem lowest {n d N D : Int} {q : Rat} (hq : q = Rat.divInt n d) (hd : d ≠ 0) (hD : 0 < D) (hg : Int.gcd N D = 1) (h : N * d = n * D) : N = q.num ∧ D = (q.den : Int) := by
  obtain ⟨k, rfl⟩ := Int.eq_ofNat_of_zero_le (Int.le_of_lt hD)
  have hk : k ≠ 0 := by omega
  have hr : N.natAbs.Coprime k := hg
  have e : (⟨N, k, hk, hr⟩ : Rat) = q := by
    rw [hq, Rat.mk_eq_divInt, Rat.divInt_eq_divInt_iff (by omega) hd]
    exact h
  rw [← e]
  exact ⟨rfl, rfl⟩

theorem rat_of (N D : Int) (hD : 0 < D) (hg : Int.gcd N D = 1) : ∃ q : Rat, q.num = N ∧ (q.den : Int) = D := by
  have h := lowest (n := N) (d := D) (q := Rat.divInt N D) rfl (by omega) hD hg rfl
  exact ⟨_, h.1.symm, h.2.symm⟩

theorem rat_gcd (q : Rat) : Int.gcd q.num q.den = 1 := by
  have := q.reduced
  simpa [Int.gcd] using this

theorem add_q (a b : Rat) : a + b = Rat.divInt (a.num * b.den + b.num * a.den) (a.den * b.den) := by
  rw [Rat.add_def', ← Rat.divInt_ofNat]; simp
theorem mul_q (a b : Rat) : a * b = Rat.divInt (a.num * b.num) (a.den * b.den) := by
  rw [Rat.mul_def', ← Rat.divInt_ofNat]; simp

/-- coprime tools over Int.gcd -/
theorem cop_mul {a b c : Int} (h : Int.gcd a b = 1) (g : Int.gcd a c = 1) : Int.gcd a (b * c) = 1 := by
  unfold Int.gcd at *
  rw [Int.natAbs_mul]
  exact Nat.Coprime.mul_right h g
theorem cop_left {a b c : Int} (h : Int.gcd a b = 1) (d : c ∣ a) : Int.gcd c b = 1 :=
  Nat.Coprime.coprime_dvd_left (Int.natAbs_dvd_natAbs.2 d) h
theorem cop_right {a b c : Int} (h : Int.gcd a b = 1) (d : c ∣ b) : Int.gcd a c = 1 :=
  Nat.Coprime.coprime_dvd_right (Int.natAbs_dvd_natAbs.2 d) h
theorem cop_comm {a b : Int} (h : Int.gcd a b = 1) : Int.gcd b a = 1 := by rw [Int.gcd_comm]; exact h

/-- a over gcd -/
theorem gcd_parts (a b : Int) (h : b ≠ 0) : ∃ x y g : Int, g = Int.gcd a b ∧ 0 < g ∧ a = g * x ∧ b = g * y ∧ Int.gcd x y = 1 := by
  have hp : 0 < Int.gcd a b := Nat.gcd_pos_of_pos_right _ (by omega)
  obtain ⟨x, hx⟩ : (Int.gcd a b : Int) ∣ a := Int.gcd_dvd_left ..
  obtain ⟨y, hy⟩ : (Int.gcd a b : Int) ∣ b := Int.gcd_dvd_right ..
  refine ⟨x, y, Int.gcd a b, rfl, by omega, hx, hy, ?_⟩
  have e : Int.gcd a b = Int.gcd a b * Int.gcd x y := by
    generalize hG : Int.gcd a b = G at *
    rw [hx, hy, Int.gcd_mul_left] at hG
    simpa using hG.symm
  exact Nat.eq_of_mul_eq_mul_left hp (by omega)

theorem cop_sum {t x y p : Int} (h : t = x + y * p) (hx : Int.gcd x p = 1) : Int.gcd t p = 1 := by
  rw [h, Int.gcd_add_mul_right_left]; exact hx

/-- the sum of two fractions, as the program reckons it -/
theorem sum_parts (aN aD bN bD s : Int) (ha : 0 < aD) (hb : 0 < bD) (hs : s = 1 ∨ s = -1) (ca : Int.gcd aN aD = 1) (cb : Int.gcd bN bD = 1) (g T h : Int) (hg : g = Int.gcd aD bD) (hT : T = aN * (bD / g) + bN * (s * (aD / g))) (hh : h = Int.gcd T g) :
    0 < g ∧ 0 < h ∧ h ∣ T ∧ h ∣ bD ∧ g ∣ aD ∧ g ∣ bD ∧ 0 < aD / g * (bD / h) ∧ Int.gcd (T / h) (aD / g * (bD / h)) = 1 ∧ T / h * (aD * bD) = (aN * bD + s * bN * aD) * (aD / g * (bD / h)) := by
  obtain ⟨p, q, g', hg', hg0, hp, hq, cpq⟩ := gcd_parts aD bD (by omega)
  obtain rfl : g = g' := by rw [hg, hg']
  have e1 : aD / g = p := by rw [hp]; exact Int.mul_ediv_cancel_left _ (by omega)
  have e2 : bD / g = q := by rw [hq]; exact Int.mul_ediv_cancel_left _ (by omega)
  rw [e1, e2] at hT
  have hp0 : 0 < p := by rw [← e1]; exact Int.ediv_pos_of_pos_of_dvd ha (by omega) ⟨p, hp⟩
  have hq0 : 0 < q := by rw [← e2]; exact Int.ediv_pos_of_pos_of_dvd hb (by omega) ⟨q, hq⟩
  have ss : Int.gcd s p = 1 ∧ Int.gcd s q = 1 := by rcases hs with rfl | rfl <;> simp
  have cTp : Int.gcd T p = 1 := by
    refine cop_sum (x := aN * q) (y := bN * s) (by rw [hT, Int.mul_assoc]) ?_
    rw [Int.gcd_comm]
    exact cop_mul (cop_comm (cop_right ca ⟨g, by rw [hp, Int.mul_comm]⟩)) cpq
  have cTq : Int.gcd T q = 1 := by
    refine cop_sum (x := bN * (s * p)) (y := aN) (by rw [hT, Int.add_comm]) ?_
    rw [Int.gcd_comm]
    exact cop_mul (cop_comm (cop_right cb ⟨g, by rw [hq, Int.mul_comm]⟩)) (cop_mul (cop_comm ss.2) (cop_comm cpq))
  obtain ⟨t, k, h', hh', hh0, ht, hk, ctk⟩ := gcd_parts T g (by omega)
  obtain rfl : h = h' := by rw [hh, hh']
  have e3 : T / h = t := by rw [ht]; exact Int.mul_ediv_cancel_left _ (by omega)
  have e4 : bD = h * (k * q) := by rw [hq, hk, Int.mul_assoc]
  have e5 : bD / h = k * q := by rw [e4]; exact Int.mul_ediv_cancel_left _ (by omega)
  have hk0 : 0 < k := by
    rcases Int.lt_trichotomy k 0 with c | c | c
    · have := Int.mul_neg_of_pos_of_neg hh0 c; omega
    · rw [c, Int.mul_zero] at hk; omega
    · exact c
  have tT : t ∣ T := ⟨h, by rw [ht, Int.mul_comm]⟩
  rw [e1, e3, e5]
  refine ⟨hg0, hh0, ⟨t, ht⟩, ⟨k * q, e4⟩, ⟨p, hp⟩, ⟨q, hq⟩, Int.mul_pos hp0 (Int.mul_pos hk0 hq0), cop_mul (cop_left cTp tT) (cop_mul ctk (cop_left cTq tT)), ?_⟩
  have : T * g = aN * bD + s * bN * aD := by rw [hT, hp, hq]; grind
  rw [← this, ht, e4, hp]
  grind

theorem mul_parts (aN aD bN bD : Int) (ha : 0 < aD) (hb : 0 < bD) (ca : Int.gcd aN aD = 1) (cb : Int.gcd bN bD = 1) (x y : Int) (hx : x = Int.gcd aN bD) (hy : y = Int.gcd bN aD) :
    0 < x ∧ 0 < y ∧ x ∣ aN ∧ x ∣ bD ∧ y ∣ bN ∧ y ∣ aD ∧ 0 < aD / y * (bD / x) ∧ Int.gcd (aN / x * (bN / y)) (aD / y * (bD / x)) = 1 ∧ aN / x * (bN / y) * (aD * bD) = aN * bN * (aD / y * (bD / x)) := by
  obtain ⟨n, d, x', hx', hx0, hn, hd, c1⟩ := gcd_parts aN bD (by omega)
  obtain rfl : x = x' := by rw [hx, hx']
  obtain ⟨m, e, y', hy', hy0, hm, he, c2⟩ := gcd_parts bN aD (by omega)
  obtain rfl : y = y' := by rw [hy, hy']
  have q1 : aN / x = n := by rw [hn]; exact Int.mul_ediv_cancel_left _ (by omega)
  have q2 : bD / x = d := by rw [hd]; exact Int.mul_ediv_cancel_left _ (by omega)
  have q3 : bN / y = m := by rw [hm]; exact Int.mul_ediv_cancel_left _ (by omega)
  have q4 : aD / y = e := by rw [he]; exact Int.mul_ediv_cancel_left _ (by omega)
  have he0 : 0 < e := by rw [← q4]; exact Int.ediv_pos_of_pos_of_dvd ha (by omega) ⟨e, he⟩
  have hd0 : 0 < d := by rw [← q2]; exact Int.ediv_pos_of_pos_of_dvd hb (by omega) ⟨d, hd⟩
  have dn : n ∣ aN := ⟨x, by rw [hn, Int.mul_comm]⟩
  have dm : m ∣ bN := ⟨y, by rw [hm, Int.mul_comm]⟩
  have dd : d ∣ bD := ⟨x, by rw [hd, Int.mul_comm]⟩
  have de : e ∣ aD := ⟨y, by rw [he, Int.mul_comm]⟩
  have k1 : Int.gcd n e = 1 := cop_left (cop_right ca de) dn
  have k2 : Int.gcd m d = 1 := cop_left (cop_right cb dd) dm
  rw [q1, q2, q3, q4]
  refine ⟨hx0, hy0, ⟨n, hn⟩, ⟨d, hd⟩, ⟨m, hm⟩, ⟨e, he⟩, Int.mul_pos he0 hd0, ?_, ?_⟩
  · rw [Int.gcd_comm]
    refine cop_mul (cop_comm (cop_mul k1 c1)) (cop_comm (cop_mul c2 k2))
  · rw [hn, he, hm, hd]; grind
end Go.Proofs.Ytbimaaknjedonaa
