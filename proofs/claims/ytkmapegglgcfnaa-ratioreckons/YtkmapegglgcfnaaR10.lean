/- Contracts of ratio's functions at values handed in; how great sums and products of fractions may be; the law's example 'awake'. -/
import Derived.Test.YtkmapegglgcfnaaR9
namespace Go.Proofs.Ytkmapegglgcfnaa
open Go.RowKit
set_option linter.unusedVariables false

/-- Bounds of a fraction's parts. -/
structure BQ (q : Rat) (A B : Nat) : Prop where
  nu : q.num.natAbs ≤ A
  de : q.den ≤ B
theorem BQ.fit {q : Rat} {A B : Nat} (h : BQ q A B) (ha : A ≤ 9223372036854775807) (hb : B ≤ 9223372036854775807) : FitQ q :=
  ⟨by have := h.nu; omega, by have := h.nu; omega, by have := h.de; omega⟩
theorem BQ.small {q : Rat} {A B : Nat} (h : BQ q A B) (ha : A ≤ 536870912) (hb : B ≤ 536870912) : SmallQ q :=
  ⟨by have := h.nu; omega, by have := h.nu; omega, by have := h.de; omega⟩
theorem BQ.of {n d : Int} {A B : Nat} (hd : d ≠ 0) (hn : n.natAbs ≤ A) (hb : d.natAbs ≤ B) : BQ (Rat.divInt n d) A B := by
  refine ⟨?_, ?_⟩
  · rw [Rat.num_divInt]
    have h1 : (d.sign * n / (d.gcd n : Int)).natAbs ≤ (d.sign * n).natAbs := Int.natAbs_ediv_le_natAbs _ _
    have h2 : (d.sign * n).natAbs = n.natAbs := by rw [Int.natAbs_mul, Int.natAbs_sign_of_ne_zero hd, Nat.one_mul]
    omega
  · rw [Rat.den_divInt, if_neg hd]
    exact Nat.le_trans (Nat.div_le_self _ _) hb
theorem BQ.add {a b : Rat} {A B C D : Nat} (ha : BQ a A B) (hb : BQ b C D) : BQ (a + b) (A * D + C * B) (B * D) := by
  have e := add_q a b
  rw [e]
  have pa := den_pos' a
  have pb := den_pos' b
  have x1 := Nat.mul_le_mul ha.nu hb.de
  have x2 := Nat.mul_le_mul hb.nu ha.de
  have x3 := Nat.mul_le_mul ha.de hb.de
  refine BQ.of (Int.mul_ne_zero (by omega) (by omega)) ?_ ?_
  · refine Nat.le_trans (Int.natAbs_add_le _ _) ?_
    rw [Int.natAbs_mul, Int.natAbs_mul, Int.natAbs_natCast, Int.natAbs_natCast]
    omega
  · rw [Int.natAbs_mul, Int.natAbs_natCast, Int.natAbs_natCast]
    exact x3
theorem BQ.mul {a b : Rat} {A B C D : Nat} (ha : BQ a A B) (hb : BQ b C D) : BQ (a * b) (A * C) (B * D) := by
  rw [mul_q a b]
  have pa := den_pos' a
  have pb := den_pos' b
  refine BQ.of (Int.mul_ne_zero (by omega) (by omega)) ?_ ?_
  · rw [Int.natAbs_mul]; exact Nat.mul_le_mul ha.nu hb.nu
  · rw [Int.natAbs_mul, Int.natAbs_natCast, Int.natAbs_natCast]; exact Nat.mul_le_mul ha.de hb.de
theorem BQ.neg {a : Rat} {A B : Nat} (ha : BQ a A B) : BQ (-a) A B := ⟨by rw [Rat.neg_num, Int.natAbs_neg]; exact ha.nu, ha.de⟩
theorem BQ.sub {a b : Rat} {A B C D : Nat} (ha : BQ a A B) (hb : BQ b C D) : BQ (a - b) (A * D + C * B) (B * D) := by
  rw [Rat.sub_eq_add_neg]; exact ha.add hb.neg
theorem BQ.self (q : Rat) : BQ q q.num.natAbs q.den := ⟨Nat.le_refl _, Nat.le_refl _⟩

theorem of_at (n d x y : Int) (w : World) (h0 : -9223372036854775808 ≤ n) (h1 : n ≤ 9223372036854775807) (h2 : -9223372036854775808 ≤ d) (h3 : d ≤ 9223372036854775807) (hd : d ≠ 0) (y0 : 0 < y) (c : Int.gcd x y = 1) (e : x * d = n * y) (fx : Fit x) (fy : Fit y) :
    Calls Try.prog 30 #[.int .i64 n, .int .i64 d] w fun e w' => e = .returned (.tuple #[.agg #[.int .i64 x, .int .i64 y], .int .i64 0]) ∧ Grown w w' := by
  obtain ⟨e1, e2⟩ := low_pos hd y0 c e
  have := of_ok n d w h0 h1 h2 h3 hd ⟨by rw [← e1]; exact fx.1, by rw [← e1]; exact fx.2, by rw [← e2]; exact fy.2⟩
  rw [← e1, ← e2] at this
  exact this
theorem of_over (n d x y : Int) (w : World) (h0 : -9223372036854775808 ≤ n) (h1 : n ≤ 9223372036854775807) (h2 : -9223372036854775808 ≤ d) (h3 : d ≤ 9223372036854775807) (hd : d ≠ 0) (y0 : 0 < y) (c : Int.gcd x y = 1) (e : x * d = n * y) (f : ¬ (Fit x ∧ Fit y)) :
    Calls Try.prog 30 #[.int .i64 n, .int .i64 d] w fun e w' => e = .returned (.tuple #[.agg #[.int .i64 0, .int .i64 0], .int .i64 14]) ∧ Grown w w' := by
  obtain ⟨e1, e2⟩ := low_pos hd y0 c e
  refine of_no n d w h0 h1 h2 h3 hd fun h => f ?_
  rw [e1, e2]
  exact ⟨⟨h.lo, h.hi⟩, ⟨by have := den_pos' (Rat.divInt n d); omega, h.de⟩⟩

theorem fits_of {q : Rat} {n d : Int} (e1 : q.num = n) (e2 : (q.den : Int) = d) (h0 : -9223372036854775808 ≤ n) (h1 : n ≤ 9223372036854775807) (h3 : d ≤ 9223372036854775807) : FitQ q := ⟨by omega, by omega, by omega⟩

theorem sub_q (a b : Rat) : a - b = Rat.divInt (a.num * b.den - b.num * a.den) (a.den * b.den) := by
  rw [Rat.sub_def', ← Rat.divInt_ofNat]; simp
theorem radd_at (aN aD bN bD x y : Int) (w : World) (h0 : -9223372036854775808 ≤ aN) (h1 : aN ≤ 9223372036854775807) (h3 : aD ≤ 9223372036854775807) (h4 : -9223372036854775808 ≤ bN) (h5 : bN ≤ 9223372036854775807) (h7 : bD ≤ 9223372036854775807) (ma : MayR aN aD) (mb : MayR bN bD)
    (y0 : 0 < y) (c : Int.gcd x y = 1) (e : x * (aD * bD) = (aN * bD + bN * aD) * y) :
    (Fit x → Fit y → Calls Try.prog 32 #[.agg #[.int .i64 aN, .int .i64 aD], .agg #[.int .i64 bN, .int .i64 bD]] w fun e w' => e = .returned (.tuple #[.agg #[.int .i64 x, .int .i64 y], .int .i64 0]) ∧ Grown w w') ∧
    (¬ (Fit x ∧ Fit y) → Calls Try.prog 32 #[.agg #[.int .i64 aN, .int .i64 aD], .agg #[.int .i64 bN, .int .i64 bD]] w fun e w' => e = .returned (.tuple #[.agg #[.int .i64 0, .int .i64 0], .int .i64 14]) ∧ Grown w w') := by
  obtain ⟨a, rfl, rfl⟩ := rat_of aN aD ma.1 ma.2
  obtain ⟨b, rfl, rfl⟩ := rat_of bN bD mb.1 mb.2
  have pa := den_pos' a
  have pb := den_pos' b
  have pd : (a.den : Int) * (b.den : Int) ≠ 0 := Int.mul_ne_zero (by omega) (by omega)
  have C := add_rat a b w ⟨h0, h1, h3⟩ ⟨h4, h5, h7⟩
  obtain ⟨e1, e2⟩ := lowest (add_q a b) pd y0 c e
  refine ⟨fun fx fy => ?_, fun f => ?_⟩
  · obtain ⟨q1, q2, q3⟩ := q_fit (r := a + b) ⟨by rw [← e1]; exact fx.1, by rw [← e1]; exact fx.2, by rw [← e2]; exact fy.2⟩
    rw [q1, q2, q3, ← e1, ← e2] at C
    exact C
  · obtain ⟨q1, q2, q3⟩ := q_unfit (r := a + b) (fun h => f (by rw [e1, e2]; exact ⟨⟨h.lo, h.hi⟩, ⟨by omega, h.de⟩⟩))
    rw [q1, q2, q3] at C
    exact C
theorem rsub_at (aN aD bN bD x y : Int) (w : World) (h0 : -9223372036854775808 ≤ aN) (h1 : aN ≤ 9223372036854775807) (h3 : aD ≤ 9223372036854775807) (h4 : -9223372036854775808 ≤ bN) (h5 : bN ≤ 9223372036854775807) (h7 : bD ≤ 9223372036854775807) (ma : MayR aN aD) (mb : MayR bN bD)
    (y0 : 0 < y) (c : Int.gcd x y = 1) (e : x * (aD * bD) = (aN * bD - bN * aD) * y) :
    (Fit x → Fit y → Calls Try.prog 33 #[.agg #[.int .i64 aN, .int .i64 aD], .agg #[.int .i64 bN, .int .i64 bD]] w fun e w' => e = .returned (.tuple #[.agg #[.int .i64 x, .int .i64 y], .int .i64 0]) ∧ Grown w w') ∧
    (¬ (Fit x ∧ Fit y) → Calls Try.prog 33 #[.agg #[.int .i64 aN, .int .i64 aD], .agg #[.int .i64 bN, .int .i64 bD]] w fun e w' => e = .returned (.tuple #[.agg #[.int .i64 0, .int .i64 0], .int .i64 14]) ∧ Grown w w') := by
  obtain ⟨a, rfl, rfl⟩ := rat_of aN aD ma.1 ma.2
  obtain ⟨b, rfl, rfl⟩ := rat_of bN bD mb.1 mb.2
  have pa := den_pos' a
  have pb := den_pos' b
  have pd : (a.den : Int) * (b.den : Int) ≠ 0 := Int.mul_ne_zero (by omega) (by omega)
  have C := sub_rat a b w ⟨h0, h1, h3⟩ ⟨h4, h5, h7⟩
  obtain ⟨e1, e2⟩ := lowest (sub_q a b) pd y0 c e
  refine ⟨fun fx fy => ?_, fun f => ?_⟩
  · obtain ⟨q1, q2, q3⟩ := q_fit (r := a - b) ⟨by rw [← e1]; exact fx.1, by rw [← e1]; exact fx.2, by rw [← e2]; exact fy.2⟩
    rw [q1, q2, q3, ← e1, ← e2] at C
    exact C
  · obtain ⟨q1, q2, q3⟩ := q_unfit (r := a - b) (fun h => f (by rw [e1, e2]; exact ⟨⟨h.lo, h.hi⟩, ⟨by omega, h.de⟩⟩))
    rw [q1, q2, q3] at C
    exact C
theorem rmult_at (aN aD bN bD x y : Int) (w : World) (h0 : -9223372036854775808 ≤ aN) (h1 : aN ≤ 9223372036854775807) (h3 : aD ≤ 9223372036854775807) (h4 : -9223372036854775808 ≤ bN) (h5 : bN ≤ 9223372036854775807) (h7 : bD ≤ 9223372036854775807) (ma : MayR aN aD) (mb : MayR bN bD)
    (y0 : 0 < y) (c : Int.gcd x y = 1) (e : x * (aD * bD) = (aN * bN) * y) :
    (Fit x → Fit y → Calls Try.prog 34 #[.agg #[.int .i64 aN, .int .i64 aD], .agg #[.int .i64 bN, .int .i64 bD]] w fun e w' => e = .returned (.tuple #[.agg #[.int .i64 x, .int .i64 y], .int .i64 0]) ∧ Grown w w') ∧
    (¬ (Fit x ∧ Fit y) → Calls Try.prog 34 #[.agg #[.int .i64 aN, .int .i64 aD], .agg #[.int .i64 bN, .int .i64 bD]] w fun e w' => e = .returned (.tuple #[.agg #[.int .i64 0, .int .i64 0], .int .i64 14]) ∧ Grown w w') := by
  obtain ⟨a, rfl, rfl⟩ := rat_of aN aD ma.1 ma.2
  obtain ⟨b, rfl, rfl⟩ := rat_of bN bD mb.1 mb.2
  have pa := den_pos' a
  have pb := den_pos' b
  have pd : (a.den : Int) * (b.den : Int) ≠ 0 := Int.mul_ne_zero (by omega) (by omega)
  have C := mul_rat a b w ⟨h0, h1, h3⟩ ⟨h4, h5, h7⟩
  obtain ⟨e1, e2⟩ := lowest (mul_q a b) pd y0 c e
  refine ⟨fun fx fy => ?_, fun f => ?_⟩
  · obtain ⟨q1, q2, q3⟩ := q_fit (r := a * b) ⟨by rw [← e1]; exact fx.1, by rw [← e1]; exact fx.2, by rw [← e2]; exact fy.2⟩
    rw [q1, q2, q3, ← e1, ← e2] at C
    exact C
  · obtain ⟨q1, q2, q3⟩ := q_unfit (r := a * b) (fun h => f (by rw [e1, e2]; exact ⟨⟨h.lo, h.hi⟩, ⟨by omega, h.de⟩⟩))
    rw [q1, q2, q3] at C
    exact C

theorem add_fit (a b : Rat) (w : World) (fa : FitQ a) (fb : FitQ b) (fc : FitQ (a + b)) :
    Calls Try.prog 32 #[.agg #[.int .i64 a.num, .int .i64 (a.den : Int)], .agg #[.int .i64 b.num, .int .i64 (b.den : Int)]] w fun e w' => e = .returned (.tuple #[.agg #[.int .i64 (a + b).num, .int .i64 ((a + b).den : Int)], .int .i64 0]) ∧ Grown w w' := by
  have C := add_rat a b w fa fb
  obtain ⟨q1, q2, q3⟩ := q_fit fc
  rw [q1, q2, q3] at C
  exact C
theorem sub_fit (a b : Rat) (w : World) (fa : FitQ a) (fb : FitQ b) (fc : FitQ (a - b)) :
    Calls Try.prog 33 #[.agg #[.int .i64 a.num, .int .i64 (a.den : Int)], .agg #[.int .i64 b.num, .int .i64 (b.den : Int)]] w fun e w' => e = .returned (.tuple #[.agg #[.int .i64 (a - b).num, .int .i64 ((a - b).den : Int)], .int .i64 0]) ∧ Grown w w' := by
  have C := sub_rat a b w fa fb
  obtain ⟨q1, q2, q3⟩ := q_fit fc
  rw [q1, q2, q3] at C
  exact C
theorem mul_fit (a b : Rat) (w : World) (fa : FitQ a) (fb : FitQ b) (fc : FitQ (a * b)) :
    Calls Try.prog 34 #[.agg #[.int .i64 a.num, .int .i64 (a.den : Int)], .agg #[.int .i64 b.num, .int .i64 (b.den : Int)]] w fun e w' => e = .returned (.tuple #[.agg #[.int .i64 (a * b).num, .int .i64 ((a * b).den : Int)], .int .i64 0]) ∧ Grown w w' := by
  have C := mul_rat a b w fa fb
  obtain ⟨q1, q2, q3⟩ := q_fit fc
  rw [q1, q2, q3] at C
  exact C
/-- How two fractions compare. -/
def cmpQ (a b : Rat) : Int := cmpI (a.num * b.den) (b.num * a.den)
theorem cmp_rat (a b : Rat) (w : World) (fa : FitQ a) (fb : FitQ b) :
    Calls Try.prog 38 #[.agg #[.int .i64 a.num, .int .i64 (a.den : Int)], .agg #[.int .i64 b.num, .int .i64 (b.den : Int)]] w fun e w' => e = .returned (.int .i64 (cmpQ a b)) ∧ Grown w w' :=
  cmp_yes _ _ _ _ w fa.lo fa.hi fa.de fb.lo fb.hi fb.de (mayR a) (mayR b)

theorem ge_alloc {W W' : World} {c : Array Value} {t : TypeId} (g : Grown (W.alloc (.cells c t)) W') : W.heap.size < W'.heap.size := by
  have := g.2.2
  simp at this
  omega

set_option maxRecDepth 100000 in
set_option maxHeartbeats 1000000 in
theorem awake2_true (w : World) : Calls Try.prog 28 #[] w fun e w' => e = .returned (.bool true) ∧ Grown w w' := by
  go_enter Try.func28, Try.ntmps28
  go_wp2_with fail
  refine (of_at 2 12 1 6 _ (by omega) (by omega) (by omega) (by omega) (by omega) (by omega) (by decide) (by omega) (by unfold Fit; omega) (by unfold Fit; omega)).mono ?_
  rintro e w1 ⟨rfl, g1⟩
  go_wp2_with fail
  refine (of_at (-1) (-3) 1 3 _ (by omega) (by omega) (by omega) (by omega) (by omega) (by omega) (by decide) (by omega) (by unfold Fit; omega) (by unfold Fit; omega)).mono ?_
  rintro e w2 ⟨rfl, g2⟩
  have z2 := ge_alloc g2
  have x0 : w2.cell? ⟨w1.heap.size, 0, none⟩ = some (.int .i64 1) := gcell g2 (by simp [go_sem])
  have x1 : w2.cell? ⟨w1.heap.size, 1, none⟩ = some (.int .i64 6) := gcell g2 (by simp [go_sem])
  go_wp2_with fail
  refine ((radd_at 1 6 1 3 1 2 _ (by omega) (by omega) (by omega) (by omega) (by omega) (by omega) ⟨by omega, by decide⟩ ⟨by omega, by decide⟩ (by omega) (by decide) (by omega)).1 (by unfold Fit; omega) (by unfold Fit; omega)).mono ?_
  rintro e w3 ⟨rfl, g3⟩
  have z3 := ge_alloc g3
  have z13 : w1.heap.size < w3.heap.size := by omega
  replace x0 := gcell (grown_trans ((Grown.refl _).alloc _ _) g3) x0
  replace x1 := gcell (grown_trans ((Grown.refl _).alloc _ _) g3) x1
  have y0 : w3.cell? ⟨w2.heap.size, 0, none⟩ = some (.int .i64 1) := gcell g3 (by simp [go_sem])
  have y1 : w3.cell? ⟨w2.heap.size, 1, none⟩ = some (.int .i64 3) := gcell g3 (by simp [go_sem])
  go_wp2_with fail
  refine (cmp_yes 1 6 1 3 _ (by omega) (by omega) (by omega) (by omega) (by omega) (by omega) ⟨by omega, by decide⟩ ⟨by omega, by decide⟩).mono ?_
  rintro e w4 ⟨rfl, g4⟩
  rw [cmpI_lt (by omega)]
  go_wp2
  go_ret
  exact ⟨rfl, grown_trans g1 (grown_trans ((Grown.refl _).alloc _ _) (grown_trans g2 (grown_trans ((Grown.refl _).alloc _ _) (grown_trans g3 (grown_trans ((Grown.refl _).alloc _ _) g4)))))⟩
end Go.Proofs.Ytkmapegglgcfnaa
