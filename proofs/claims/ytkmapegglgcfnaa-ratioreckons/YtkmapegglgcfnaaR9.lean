/- Contracts of the document's own Plus and Minus (evenhandedref1) of small fractions; of the law's 'small' and 'awake'. -/
import Derived.Test.YtkmapegglgcfnaaR8
import Derived.Test.YtkmapegglgcfnaaR7
namespace Go.Proofs.Ytkmapegglgcfnaa
open Go.RowKit
set_option linter.unusedVariables false

/-- A small fraction. -/
structure SmallQ (q : Rat) : Prop where
  lo : -536870912 ≤ q.num
  hi : q.num ≤ 536870912
  de : (q.den : Int) ≤ 536870912
theorem SmallQ.fit {q : Rat} (h : SmallQ q) : FitQ q := ⟨by have := h.lo; omega, by have := h.hi; omega, by have := h.de; omega⟩

/-- What Plus reckons on its way. -/
structure Pluss (aN aD bN bD g P Q X Y Z : Int) : Prop where
  eg : gcdV aD bD = g
  g0 : 0 < g
  g1 : g ≤ 536870912
  eP : aD / g = P
  eQ : bD / g = Q
  P0 : 0 < P
  P1 : P ≤ 536870912
  Q0 : 0 < Q
  Q1 : Q ≤ 536870912
  eX : aN * Q = X
  eY : bN * P = Y
  eZ : P * bD = Z
  X0 : -288230376151711744 ≤ X
  X1 : X ≤ 288230376151711744
  Y0 : -288230376151711744 ≤ Y
  Y1 : Y ≤ 288230376151711744
  Z0 : 0 < Z
  Z1 : Z ≤ 288230376151711744
  eq : (X + Y) * (aD * bD) = (aN * bD + bN * aD) * Z
theorem prod58 {x y : Int} (h0 : -536870912 ≤ x) (h1 : x ≤ 536870912) (h2 : -536870912 ≤ y) (h3 : y ≤ 536870912) : -288230376151711744 ≤ x * y ∧ x * y ≤ 288230376151711744 := by
  have h := Nat.mul_le_mul (show x.natAbs ≤ 536870912 by omega) (show y.natAbs ≤ 536870912 by omega)
  rw [← Int.natAbs_mul] at h
  generalize x * y = p at *
  omega
theorem pluss {aN aD bN bD : Int} (h0 : -536870912 ≤ aN) (h1 : aN ≤ 536870912) (h2 : 0 < aD) (h3 : aD ≤ 536870912) (h4 : -536870912 ≤ bN) (h5 : bN ≤ 536870912) (h6 : 0 < bD) (h7 : bD ≤ 536870912) :
    ∃ g P Q X Y Z : Int, Pluss aN aD bN bD g P Q X Y Z := by
  obtain ⟨p, q, g, hg, g0, hp, hq, -⟩ := gcd_parts aD bD (by omega)
  obtain ⟨k1, k2, k3⟩ := gcd_int (a := aD) h6 (by omega)
  have e1 : aD / g = p := by rw [hp]; exact Int.mul_ediv_cancel_left _ (by omega)
  have e2 : bD / g = q := by rw [hq]; exact Int.mul_ediv_cancel_left _ (by omega)
  obtain ⟨P0, P1⟩ := pos_le (c := 0) g0 h2 ⟨p, hp⟩
  obtain ⟨Q0, Q1⟩ := pos_le (c := 0) g0 h6 ⟨q, hq⟩
  rw [e1] at P0 P1
  rw [e2] at Q0 Q1
  obtain ⟨x0, x1⟩ := prod58 h0 h1 (show -536870912 ≤ q by omega) (by omega)
  obtain ⟨y0, y1⟩ := prod58 h4 h5 (show -536870912 ≤ p by omega) (by omega)
  obtain ⟨z0, z1⟩ := prod58 (show -536870912 ≤ p by omega) (by omega) (show -536870912 ≤ bD by omega) h7
  exact ⟨g, p, q, aN * q, bN * p, p * bD, { eg := by rw [k1, hg], g0 := g0, g1 := by omega, eP := e1, eQ := e2, P0 := P0, P1 := by omega, Q0 := Q0, Q1 := by omega, eX := rfl, eY := rfl, eZ := rfl, X0 := x0, X1 := x1, Y0 := y0, Y1 := y1, Z0 := Int.mul_pos P0 h6, Z1 := z1, eq := by rw [hp, hq]; grind }⟩

set_option maxRecDepth 100000 in
set_option maxHeartbeats 1000000 in
theorem rplus_all (aN aD bN bD g P Q X Y Z : Int) (w : World) (h0 : -536870912 ≤ aN) (h1 : aN ≤ 536870912) (h2 : 0 < aD) (h3 : aD ≤ 536870912) (h4 : -536870912 ≤ bN) (h5 : bN ≤ 536870912) (h6 : 0 < bD) (h7 : bD ≤ 536870912) (pl : Pluss aN aD bN bD g P Q X Y Z) :
    Calls Try.prog 36 #[.agg #[.int .i64 aN, .int .i64 aD], .agg #[.int .i64 bN, .int .i64 bD]] w fun e w' => e = .returned (.agg #[.int .i64 (Rat.divInt (X + Y) Z).num, .int .i64 ((Rat.divInt (X + Y) Z).den : Int)]) ∧ Grown w w' := by
  have g0 := pl.g0
  have g1 := pl.g1
  have P0 := pl.P0
  have P1 := pl.P1
  have Q0 := pl.Q0
  have Q1 := pl.Q1
  have X0 := pl.X0
  have X1 := pl.X1
  have Y0 := pl.Y0
  have Y1 := pl.Y1
  have Z0 := pl.Z0
  have Z1 := pl.Z1
  have gz : ¬ g = 0 := by omega
  have PL := Lib.hid pl
  clear pl
  go_enter Try.func36, Try.ntmps36
  go_wp2_with fail
  refine (rgcdq_at aD bD g _ (by omega) (by omega) (by omega) (by omega) PL.out.eg).mono ?_
  rintro e w1 ⟨rfl, j, rfl⟩
  have bx := (boxes_new aN aD bN bD w).keep (grown_drewN (Grown.refl _) j)
  generalize (((w.alloc (.cells #[.int .i64 aN, .int .i64 aD] 37)).alloc (.cells #[.int .i64 bN, .int .i64 bD] 37)).alloc (.cells #[.int .i64 0, .int .i64 0] 37)).drewN j = w3 at *
  have ca0 := bx.a0
  have ca1 := bx.a1
  have cb0 := bx.b0
  have cb1 := bx.b1
  have r0 := bx.r0
  have r1 := bx.r1
  have f0 := bx.f0
  have f1 := bx.f1
  have gr := bx.gr
  clear bx
  have eP := PL.out.eP
  have eQ := PL.out.eQ
  have eP' : aD.tdiv g = P := by rw [Int.tdiv_eq_ediv_of_nonneg (by omega)]; exact eP
  have eQ' : bD.tdiv g = Q := by rw [Int.tdiv_eq_ediv_of_nonneg (by omega)]; exact eQ
  have eX := PL.out.eX
  have eY := PL.out.eY
  have eZ := PL.out.eZ
  have wP : IntKind.i64.wrap P = P := IntWalk.i64_in _ ⟨by omega, by omega⟩
  have wQ : IntKind.i64.wrap Q = Q := IntWalk.i64_in _ ⟨by omega, by omega⟩
  have wX : IntKind.i64.wrap X = X := IntWalk.i64_in _ ⟨by omega, by omega⟩
  have wY : IntKind.i64.wrap Y = Y := IntWalk.i64_in _ ⟨by omega, by omega⟩
  have wZ : IntKind.i64.wrap Z = Z := IntWalk.i64_in _ ⟨by omega, by omega⟩
  have wS : IntKind.i64.wrap (X + Y) = X + Y := IntWalk.i64_in _ ⟨by omega, by omega⟩
  go_wp2_with fail
  go_region_held3 (fun w' => w'.cell? ⟨w.heap.size, 0, none⟩ = some (.int .i64 aN) ∧ w'.cell? ⟨w.heap.size, 1, none⟩ = some (.int .i64 aD) ∧ w'.cell? ⟨w.heap.size + 1, 0, none⟩ = some (.int .i64 bN) ∧ w'.cell? ⟨w.heap.size + 1, 1, none⟩ = some (.int .i64 bD))
    (refine ⟨?_, ?_, ?_, ?_⟩ <;> (repeat (first | assumption | refine cell_old ?_ _ _ | refine cell_drew ?_ | refine cell_drewN ?_ _ | refine cell_set ?_ (by omega) _)))
    (first
      | (go_at_call 31; refine (rof_any (X + Y) Z _ (by omega) (by omega) (by omega) (by omega) (by omega)).mono ?_; rintro e w4 ⟨rfl, g4⟩; replace ca0 := gcell g4 ca0; replace ca1 := gcell g4 ca1; replace cb0 := gcell g4 cb0; replace cb1 := gcell g4 cb1; replace r0 := gcell g4 r0; replace r1 := gcell g4 r1; replace f0 := (g4.2.1 _).trans f0; replace f1 := (g4.2.1 _).trans f1; replace gr := grown_trans gr g4))
  clear ca0 ca1 cb0 cb1 eP eQ eP' eQ' eX eY eZ wP wQ wX wY wZ wS
  go_wp2
  exact bodyPost_ret (v := .agg #[.int .i64 (Rat.divInt (X + Y) Z).num, .int .i64 ((Rat.divInt (X + Y) Z).den : Int)]) (by simp [results, Try.results36, go_sem, r0, r1]) rfl ⟨rfl, (gr.setCell (by simp; omega) _).setCell (by simp; omega) _⟩

theorem rplus_rat (a b : Rat) (w : World) (fa : SmallQ a) (fb : SmallQ b) :
    Calls Try.prog 36 #[.agg #[.int .i64 a.num, .int .i64 (a.den : Int)], .agg #[.int .i64 b.num, .int .i64 (b.den : Int)]] w fun e w' => e = .returned (.agg #[.int .i64 (a + b).num, .int .i64 ((a + b).den : Int)]) ∧ Grown w w' := by
  have pa := den_pos' a
  have pb := den_pos' b
  obtain ⟨g, P, Q, X, Y, Z, pl⟩ := pluss fa.lo fa.hi pa fa.de fb.lo fb.hi pb fb.de
  have e : Rat.divInt (X + Y) Z = a + b := by
    rw [add_q, Rat.divInt_eq_divInt_iff (by have := pl.Z0; omega) (Int.mul_ne_zero (by omega) (by omega))]
    exact pl.eq
  have := rplus_all _ _ _ _ _ _ _ _ _ _ w fa.lo fa.hi pa fa.de fb.lo fb.hi pb fb.de pl
  rw [e] at this
  exact this

set_option maxHeartbeats 400000 in
theorem rminus_rat (a b : Rat) (w : World) (fa : SmallQ a) (fb : SmallQ b) :
    Calls Try.prog 37 #[.agg #[.int .i64 a.num, .int .i64 (a.den : Int)], .agg #[.int .i64 b.num, .int .i64 (b.den : Int)]] w fun e w' => e = .returned (.agg #[.int .i64 (a - b).num, .int .i64 ((a - b).den : Int)]) ∧ Grown w w' := by
  have hl := fb.lo
  have hh := fb.hi
  have C := rplus_rat a (-b)
  rw [← Rat.sub_eq_add_neg, Rat.neg_num, Rat.neg_den] at C
  have HC := Lib.hid C
  have FN : Hid (SmallQ (-b)) := ⟨by rw [Rat.neg_num]; omega, by rw [Rat.neg_num]; omega, fb.de⟩
  clear C
  go_enter Try.func37, Try.ntmps37
  go_wp2_with fail
  refine (HC.out _ fa FN.out).mono ?_
  rintro e w1 ⟨rfl, k1⟩
  have bx := (boxes_new a.num a.den b.num b.den w).keep k1
  have r0 := bx.r0
  have r1 := bx.r1
  have f0 := bx.f0
  have f1 := bx.f1
  have gr := bx.gr
  clear bx k1
  go_wp2
  exact bodyPost_ret (v := .agg #[.int .i64 (a - b).num, .int .i64 ((a - b).den : Int)]) (by simp [results, Try.results37, go_sem, r0, r1]) rfl ⟨rfl, (gr.setCell (by simp; omega) _).setCell (by simp; omega) _⟩

theorem small_yes (n : Int) (w : World) (h0 : -536870912 ≤ n) (h1 : n ≤ 536870912) :
    Calls Try.prog 29 #[.int .i64 n] w fun e w' => e = .returned (.bool true) ∧ w = w' := by
  have d0 : decide (-536870912 ≤ n) = true := by simp; omega
  have d1 : decide (n ≤ 536870912) = true := by simp; omega
  go_enter Try.func29, Try.ntmps29
  go_wp2
  go_ret
  exact ⟨rfl, rfl⟩
theorem small_no (n : Int) (w : World) (h : n < -536870912 ∨ 536870912 < n) :
    Calls Try.prog 29 #[.int .i64 n] w fun e w' => e = .returned (.bool false) ∧ w = w' := by
  rcases h with h | h
  · have d0 : decide (-536870912 ≤ n) = false := by simp; omega
    go_enter Try.func29, Try.ntmps29
    go_wp2
    go_ret
    exact ⟨rfl, rfl⟩
  · have d0 : decide (-536870912 ≤ n) = true := by simp; omega
    have d1 : decide (n ≤ 536870912) = false := by simp; omega
    go_enter Try.func29, Try.ntmps29
    go_wp2
    go_ret
    exact ⟨rfl, rfl⟩
end Go.Proofs.Ytkmapegglgcfnaa
