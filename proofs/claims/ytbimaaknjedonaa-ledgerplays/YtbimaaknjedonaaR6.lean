/- Contracts of ratio's Add, Sub, Mul, Cmp, Floor, Ceil, of fractions (Rat); what is refused. -/
import Derived.Test.YtbimaaknjedonaaR5
import Derived.Test.YtbimaaknjedonaaRounds
namespace Go.Proofs.Ytbimaaknjedonaa
open Go.RowKit
set_option linter.unusedVariables false

/-- What is answered of a fraction: its parts where both fit, else nought, with the number of the error. -/
def qN (r : Rat) : Int := jV r.num r.den r.num
def qD (r : Rat) : Int := jV r.num r.den r.den
def qE (r : Rat) : Int := jE r.num r.den
theorem q_fit {r : Rat} (h : FitQ r) : qN r = r.num ∧ qD r = r.den ∧ qE r = 0 := by
  have p := den_pos' r
  have e : (fB r.num && fB r.den) = true := by rw [fB_yes ⟨h.lo, h.hi⟩, fB_yes ⟨by omega, h.de⟩]; rfl
  unfold qN qD qE jV jE
  rw [e]; exact ⟨rfl, rfl, rfl⟩
theorem q_unfit {r : Rat} (h : ¬ FitQ r) : qN r = 0 ∧ qD r = 0 ∧ qE r = 14 := by
  have p := den_pos' r
  have e : (fB r.num && fB r.den) = false := by
    cases e : (fB r.num && fB r.den) with
    | false => rfl
    | true =>
      rw [Bool.and_eq_true, fB_iff, fB_iff] at e
      exact absurd ⟨e.1.1, e.1.2, e.2.2⟩ h
  unfold qN qD qE jV jE
  rw [e]; exact ⟨rfl, rfl, rfl⟩
theorem qE_or (r : Rat) : qE r = 0 ∨ qE r = 14 := by unfold qE jE; split <;> simp

theorem ret_qq {r : Rat} {N D : Int} (h : N = r.num) (g : D = (r.den : Int)) : Ending.returned (.tuple #[.agg #[.int .i64 (jV N D N), .int .i64 (jV N D D)], .int .i64 (jE N D)]) = .returned (.tuple #[.agg #[.int .i64 (qN r), .int .i64 (qD r)], .int .i64 (qE r)]) := by
  rw [h, g]; rfl

theorem sum_rat (a b r : Rat) (s : Int) (w : World) (fa : FitQ a) (fb : FitQ b) (h : (s = 1 ∧ r = a + b) ∨ (s = -1 ∧ r = a - b)) :
    Calls Try.prog 32 #[.agg #[.int .i64 a.num, .int .i64 (a.den : Int)], .agg #[.int .i64 b.num, .int .i64 (b.den : Int)], .int .i64 s] w fun e w' => e = .returned (.tuple #[.agg #[.int .i64 (qN r), .int .i64 (qD r)], .int .i64 (qE r)]) ∧ Grown w w' := by
  obtain ⟨g, P, Q, S, T, hh, K, su⟩ := sums fa.lo fa.hi fa.de fb.lo fb.hi fb.de (mayR a) (mayR b) (s := s) (by omega)
  refine (sum_any _ _ _ _ _ _ _ _ _ _ _ _ w fa.lo fa.hi fa.de fb.lo fb.hi fb.de (mayR a) (mayR b) su).mono ?_
  rintro e w' ⟨rfl, hg⟩
  have pa := den_pos' a
  have pb := den_pos' b
  have pd : (a.den : Int) * (b.den : Int) ≠ 0 := Int.mul_ne_zero (by omega) (by omega)
  have hq : r = Rat.divInt (a.num * b.den + s * b.num * a.den) (a.den * b.den) := by
    rcases h with ⟨rfl, rfl⟩ | ⟨rfl, rfl⟩
    · rw [Int.one_mul]; exact add_q a b
    · rw [Rat.sub_eq_add_neg, add_q, Rat.neg_num, Rat.neg_den, Int.neg_mul (a := 1), Int.one_mul]
  obtain ⟨e1, e2⟩ := lowest hq pd (Int.mul_pos su.P0 su.K0) su.low su.eq
  exact ⟨ret_qq e1 e2, hg⟩

set_option maxHeartbeats 400000 in
theorem add_rat (a b : Rat) (w : World) (fa : FitQ a) (fb : FitQ b) :
    Calls Try.prog 29 #[.agg #[.int .i64 a.num, .int .i64 (a.den : Int)], .agg #[.int .i64 b.num, .int .i64 (b.den : Int)]] w fun e w' => e = .returned (.tuple #[.agg #[.int .i64 (qN (a + b)), .int .i64 (qD (a + b))], .int .i64 (qE (a + b))]) ∧ Grown w w' := by
  go_enter Try.func29, Try.ntmps29
  go_wp2_with fail
  refine (sum_rat a b (a + b) 1 _ fa fb (.inl ⟨rfl, rfl⟩)).mono ?_
  rintro e w1 ⟨rfl, k1⟩
  have bx := (boxes_new a.num a.den b.num b.den w).keep k1
  have r0 := bx.r0
  have r1 := bx.r1
  have f0 := bx.f0
  have f1 := bx.f1
  have gr := bx.gr
  clear bx k1
  go_wp2
  exact bodyPost_ret (v := .tuple #[.agg #[.int .i64 (qN (a + b)), .int .i64 (qD (a + b))], .int .i64 (qE (a + b))]) (by simp [results, Try.results29, go_sem, r0, r1]) rfl ⟨rfl, (gr.setCell (by simp; omega) _).setCell (by simp; omega) _⟩

set_option maxHeartbeats 400000 in
theorem sub_rat (a b : Rat) (w : World) (fa : FitQ a) (fb : FitQ b) :
    Calls Try.prog 23 #[.agg #[.int .i64 a.num, .int .i64 (a.den : Int)], .agg #[.int .i64 b.num, .int .i64 (b.den : Int)]] w fun e w' => e = .returned (.tuple #[.agg #[.int .i64 (qN (a - b)), .int .i64 (qD (a - b))], .int .i64 (qE (a - b))]) ∧ Grown w w' := by
  go_enter Try.func23, Try.ntmps23
  go_wp2_with fail
  refine (sum_rat a b (a - b) (-1) _ fa fb (.inr ⟨rfl, rfl⟩)).mono ?_
  rintro e w1 ⟨rfl, k1⟩
  have bx := (boxes_new a.num a.den b.num b.den w).keep k1
  have r0 := bx.r0
  have r1 := bx.r1
  have f0 := bx.f0
  have f1 := bx.f1
  have gr := bx.gr
  clear bx k1
  go_wp2
  exact bodyPost_ret (v := .tuple #[.agg #[.int .i64 (qN (a - b)), .int .i64 (qD (a - b))], .int .i64 (qE (a - b))]) (by simp [results, Try.results23, go_sem, r0, r1]) rfl ⟨rfl, (gr.setCell (by simp; omega) _).setCell (by simp; omega) _⟩

/-- What the product reckons on its way. -/
structure Prods (aN aD bN bD x y n m e d : Int) : Prop where
  ex : gcdV aN bD = x
  ey : gcdV bN aD = y
  x0 : 0 < x
  x1 : x ≤ 9223372036854775807
  y0 : 0 < y
  y1 : y ≤ 9223372036854775807
  en : aN.tdiv x = n
  em : bN.tdiv y = m
  ee : aD / y = e
  ed : bD / x = d
  n0 : -9223372036854775808 ≤ n
  n1 : n ≤ 9223372036854775807
  m0 : -9223372036854775808 ≤ m
  m1 : m ≤ 9223372036854775807
  e0 : 0 < e
  e1 : e ≤ 9223372036854775807
  d0 : 0 < d
  d1 : d ≤ 9223372036854775807
  low : Int.gcd (n * m) (e * d) = 1
  eq : n * m * (aD * bD) = aN * bN * (e * d)
theorem prods {aN aD bN bD : Int} (h0 : -9223372036854775808 ≤ aN) (h1 : aN ≤ 9223372036854775807) (h3 : aD ≤ 9223372036854775807) (h4 : -9223372036854775808 ≤ bN) (h5 : bN ≤ 9223372036854775807) (h7 : bD ≤ 9223372036854775807) (ma : MayR aN aD) (mb : MayR bN bD) :
    ∃ x y n m e d : Int, Prods aN aD bN bD x y n m e d := by
  obtain ⟨a0, ca⟩ := ma
  obtain ⟨b0, cb⟩ := mb
  obtain ⟨p1, p2, p3, p4, p5, p6, p7, p8, p9⟩ := mul_parts aN aD bN bD a0 b0 ca cb _ _ rfl rfl
  obtain ⟨g1, g2, g3⟩ := gcd_int (a := aN) b0 h7
  obtain ⟨k1, k2, k3⟩ := gcd_int (a := bN) a0 h3
  rw [← g1] at p1 p3 p4 p7 p8 p9
  rw [← k1] at p2 p5 p6 p7 p8 p9
  generalize hx : gcdV aN bD = x at *
  generalize hy : gcdV bN aD = y at *
  obtain ⟨E0, E1⟩ := pos_le (c := 0) p2 a0 p6
  obtain ⟨D0, D1⟩ := pos_le (c := 0) p1 b0 p4
  have tn := Int.tdiv_eq_ediv_of_dvd p3
  have tm := Int.tdiv_eq_ediv_of_dvd p5
  obtain ⟨n, hn⟩ := p3
  obtain ⟨m, hm⟩ := p5
  have en := tdiv_g hn (by omega)
  have em := tdiv_g hm (by omega)
  obtain ⟨n0, n1⟩ := quo_in hn p1 h0 h1
  obtain ⟨m0, m1⟩ := quo_in hm p2 h4 h5
  rw [← tn, ← tm, en, em] at p8 p9
  exact ⟨x, y, n, m, aD / y, bD / x, { ex := hx, ey := hy, x0 := p1, x1 := by omega, y0 := p2, y1 := by omega, en := en, em := em, ee := rfl, ed := rfl, n0 := n0, n1 := n1, m0 := m0, m1 := m1, e0 := E0, e1 := by omega, d0 := D0, d1 := by omega, low := p8, eq := p9 }⟩

theorem two_boxes (aN aD bN bD : Int) (w w' : World) (g : Grown ((w.alloc (.cells #[.int .i64 aN, .int .i64 aD] 38)).alloc (.cells #[.int .i64 bN, .int .i64 bD] 38)) w') :
    w'.cell? ⟨w.heap.size, 0, none⟩ = some (.int .i64 aN) ∧ w'.cell? ⟨w.heap.size, 1, none⟩ = some (.int .i64 aD) ∧ w'.cell? ⟨w.heap.size + 1, 0, none⟩ = some (.int .i64 bN) ∧ w'.cell? ⟨w.heap.size + 1, 1, none⟩ = some (.int .i64 bD) ∧ Grown w w' :=
  ⟨gcell g (by simp [go_sem]), gcell g (by simp [go_sem]), gcell g (by simp [go_sem]), gcell g (by simp [go_sem]), grown_trans (((Grown.refl _).alloc _ _).alloc _ _) g⟩

set_option maxHeartbeats 400000 in
theorem cmp_yes (aN aD bN bD : Int) (w : World) (h0 : -9223372036854775808 ≤ aN) (h1 : aN ≤ 9223372036854775807) (h3 : aD ≤ 9223372036854775807) (h4 : -9223372036854775808 ≤ bN) (h5 : bN ≤ 9223372036854775807) (h7 : bD ≤ 9223372036854775807) (ma : MayR aN aD) (mb : MayR bN bD) :
    Calls Try.prog 30 #[.agg #[.int .i64 aN, .int .i64 aD], .agg #[.int .i64 bN, .int .i64 bD]] w fun e w' => e = .returned (.int .i64 (cmpI (aN * bD) (bN * aD))) ∧ Grown w w' := by
  have a0 := ma.1
  have b0 := mb.1
  have MA := Lib.hid ma
  have MB := Lib.hid mb
  clear ma mb
  go_enter Try.func30, Try.ntmps30
  go_wp2_with fail
  refine (may_yes aN aD _ h0 h1 (by omega) h3 MA.out).mono ?_
  rintro e w1 ⟨rfl, k1⟩
  obtain ⟨ca0, ca1, cb0, cb1, gr⟩ := two_boxes _ _ _ _ _ _ k1
  go_wp2_with fail
  refine (may_yes bN bD _ h4 h5 (by omega) h7 MB.out).mono ?_
  rintro e w2 ⟨rfl, k2⟩
  clear ca0 ca1 cb0 cb1 gr
  obtain ⟨ca0, ca1, cb0, cb1, gr⟩ := two_boxes _ _ _ _ _ _ (grown_trans k1 k2)
  clear k1 k2
  go_wp2_with fail
  refine (cross_any aN bD bN aD _ h0 h1 (by omega) h7 h4 h5 (by omega) h3).mono ?_
  rintro e w3 ⟨rfl, k3⟩
  go_wp2
  go_ret
  exact ⟨rfl, grown_trans gr k3⟩

set_option maxHeartbeats 400000 in
theorem cmp_no (aN aD bN bD : Int) (w : World) (h0 : -9223372036854775808 ≤ aN) (h1 : aN ≤ 9223372036854775807) (h2 : -9223372036854775808 ≤ aD) (h3 : aD ≤ 9223372036854775807) (h4 : -9223372036854775808 ≤ bN) (h5 : bN ≤ 9223372036854775807) (h6 : -9223372036854775808 ≤ bD) (h7 : bD ≤ 9223372036854775807) (hm : ¬ (MayR aN aD ∧ MayR bN bD)) :
    Calls Try.prog 30 #[.agg #[.int .i64 aN, .int .i64 aD], .agg #[.int .i64 bN, .int .i64 bD]] w fun e w' => e = .returned (.int .i64 0) ∧ Grown w w' := by
  have HM := Lib.hid hm
  clear hm
  by_cases ma : MayR aN aD
  · have MA := Lib.hid ma
    clear ma
    go_enter Try.func30, Try.ntmps30
    go_wp2_with fail
    refine (may_yes aN aD _ h0 h1 h2 h3 MA.out).mono ?_
    rintro e w1 ⟨rfl, k1⟩
    obtain ⟨ca0, ca1, cb0, cb1, gr⟩ := two_boxes _ _ _ _ _ _ k1
    go_wp2_with fail
    refine (may_no bN bD _ h4 h5 h6 h7 (fun mb => HM.out ⟨MA.out, mb⟩)).mono ?_
    rintro e w2 ⟨rfl, k2⟩
    go_wp2
    go_ret
    exact ⟨rfl, grown_trans gr k2⟩
  · have MA := Lib.hid ma
    clear ma
    go_enter Try.func30, Try.ntmps30
    go_wp2_with fail
    refine (may_no aN aD _ h0 h1 h2 h3 MA.out).mono ?_
    rintro e w1 ⟨rfl, k1⟩
    obtain ⟨ca0, ca1, cb0, cb1, gr⟩ := two_boxes _ _ _ _ _ _ k1
    go_wp2
    go_ret
    exact ⟨rfl, gr⟩

theorem one_box (aN aD : Int) (w w' : World) (g : Grown (w.alloc (.cells #[.int .i64 aN, .int .i64 aD] 38)) w') :
    w'.cell? ⟨w.heap.size, 0, none⟩ = some (.int .i64 aN) ∧ w'.cell? ⟨w.heap.size, 1, none⟩ = some (.int .i64 aD) ∧ Grown w w' :=
  ⟨gcell g (by simp [go_sem]), gcell g (by simp [go_sem]), grown_trans ((Grown.refl _).alloc _ _) g⟩

theorem flo_pos {a b : Int} (hb : 0 < b) : flo a b = a / b := by
  have h1 := Int.tdiv_mul_add_tmod a b
  have h2 : a / b * b ≤ a := Int.ediv_mul_le a (by omega)
  have h3 : a < (a / b + 1) * b := Int.lt_ediv_add_one_mul_self a hb
  unfold flo
  by_cases c : a < 0
  · by_cases r : a.tmod b = 0
    · rw [if_neg (by simp [r])]
      rw [Int.tdiv_eq_ediv_of_dvd (Int.dvd_of_tmod_eq_zero r)]
    · rw [if_pos ⟨r, by simp [c]; omega⟩]
      have : a.tdiv b = a / b + 1 := by
        rw [Int.tdiv_eq_ediv, if_neg]
        · rw [Int.sign_eq_one_of_pos hb]
        · intro h
          rcases h with h | h
          · omega
          · exact r (Int.tmod_eq_zero_of_dvd h)
      omega
  · rw [if_neg (by simp [c]; omega), Int.tdiv_eq_ediv_of_nonneg (by omega)]
theorem flo_floor (q : Rat) : flo q.num q.den = q.floor := by
  rw [flo_pos (den_pos' q), Rat.floor_def]
theorem cei_ceil (q : Rat) : cei q.num q.den = q.ceil := by
  rw [Rat.ceil_eq_neg_floor_neg, ← flo_floor, Rat.neg_num, Rat.neg_den, ← cei_neg (by have := den_pos' q; omega), Int.neg_neg]

end Go.Proofs.Ytbimaaknjedonaa
