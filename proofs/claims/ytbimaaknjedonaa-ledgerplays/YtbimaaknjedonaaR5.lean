/- Contract of ratio's sum, Add and Sub. -/
import Derived.Test.YtbimaaknjedonaaR4
import Derived.Deep.RegionHeld3
namespace Go.Proofs.Ytbimaaknjedonaa
open Go.RowKit
set_option linter.unusedVariables false

/-- What sum reckons on its way. -/
structure Sums (aN aD bN bD s g P Q S T h K : Int) : Prop where
  g0 : 0 < g
  g1 : g ≤ 9223372036854775807
  eg : gcdV aD bD = g
  eP : aD / g = P
  eQ : bD / g = Q
  P0 : 0 < P
  P1 : P ≤ 9223372036854775807
  Q0 : 0 < Q
  Q1 : Q ≤ 9223372036854775807
  eS : s * P = S
  S0 : -9223372036854775807 ≤ S
  S1 : S ≤ 9223372036854775807
  eT : aN * Q + bN * S = T
  a0 : -85070591730234615865843651857942052864 ≤ aN * Q
  a1 : aN * Q < 85070591730234615865843651857942052864
  b0 : -85070591730234615865843651857942052864 ≤ bN * S
  b1 : bN * S < 85070591730234615865843651857942052864
  eh : gcdV (rst T g) g = h
  h0 : 0 < h
  h1 : h ≤ 9223372036854775807
  hT : h ∣ T
  eK : bD / h = K
  K0 : 0 < K
  K1 : K ≤ 9223372036854775807
  low : Int.gcd (T / h) (P * K) = 1
  eq : T / h * (aD * bD) = (aN * bD + s * bN * aD) * (P * K)

theorem gcd_rst (T g : Int) (hg : 0 < g) : Int.gcd (rst T g) g = Int.gcd T g := by
  unfold rst
  obtain ⟨k, rfl⟩ := Int.eq_ofNat_of_zero_le (Int.le_of_lt hg)
  rw [← Int.natCast_emod]
  show Nat.gcd (T.natAbs % k) k = Nat.gcd T.natAbs k
  rw [← Nat.gcd_rec, Nat.gcd_comm]

theorem prod126 {x y : Int} (h0 : -9223372036854775808 ≤ x) (h1 : x ≤ 9223372036854775807) (h2 : -9223372036854775807 ≤ y) (h3 : y ≤ 9223372036854775807) : -85070591730234615865843651857942052864 ≤ x * y ∧ x * y < 85070591730234615865843651857942052864 := by
  have h := Nat.mul_le_mul (show x.natAbs ≤ 9223372036854775808 by omega) (show y.natAbs ≤ 9223372036854775807 by omega)
  rw [← Int.natAbs_mul] at h
  generalize x * y = p at *
  omega
theorem pos_le {a b c : Int} (hb : 0 < b) (ha : 0 < a) (d : b ∣ a) : 0 < a / b ∧ a / b ≤ a :=
  ⟨Int.ediv_pos_of_pos_of_dvd ha (by omega) d, Int.ediv_le_self _ (by omega)⟩

theorem sums {aN aD bN bD s : Int} (h0 : -9223372036854775808 ≤ aN) (h1 : aN ≤ 9223372036854775807) (h3 : aD ≤ 9223372036854775807) (h4 : -9223372036854775808 ≤ bN) (h5 : bN ≤ 9223372036854775807) (h7 : bD ≤ 9223372036854775807) (ma : MayR aN aD) (mb : MayR bN bD) (hs : s = 1 ∨ s = -1) :
    ∃ g P Q S T h K : Int, Sums aN aD bN bD s g P Q S T h K := by
  obtain ⟨a0, ca⟩ := ma
  obtain ⟨b0, cb⟩ := mb
  obtain ⟨p1, p2, p3, p4, p5, p6, p7, p8, p9⟩ := sum_parts aN aD bN bD s a0 b0 hs ca cb _ _ _ rfl rfl rfl
  obtain ⟨g1, g2, g3⟩ := gcd_int (a := aD) b0 h7
  rw [← g1] at p1 p2 p3 p4 p5 p6 p7 p8 p9
  generalize hgg : gcdV aD bD = g at *
  obtain ⟨P0, P1⟩ := pos_le (c := 0) p1 a0 p5
  obtain ⟨Q0, Q1⟩ := pos_le (c := 0) p1 b0 p6
  obtain ⟨K0, K1⟩ := pos_le (c := 0) p2 b0 p4
  have eh := gcd_rst (aN * (bD / g) + bN * (s * (aD / g))) g p1
  obtain ⟨r1, r2, r3⟩ := gcd_int (a := rst (aN * (bD / g) + bN * (s * (aD / g))) g) p1 (by omega)
  rw [eh] at r1
  have S01 : -9223372036854775807 ≤ s * (aD / g) ∧ s * (aD / g) ≤ 9223372036854775807 := by
    rcases hs with rfl | rfl
    · rw [Int.one_mul]; omega
    · rw [Int.neg_mul, Int.one_mul]; omega
  obtain ⟨x0, x1⟩ := prod126 h0 h1 (show -9223372036854775807 ≤ bD / g by omega) (by omega)
  obtain ⟨y0, y1⟩ := prod126 h4 h5 S01.1 S01.2
  exact ⟨g, aD / g, bD / g, s * (aD / g), _, _, _, {
    g0 := p1, g1 := by omega, eg := hgg, eP := rfl, eQ := rfl, P0 := P0, P1 := by omega, Q0 := Q0, Q1 := by omega, eS := rfl, S0 := S01.1, S1 := S01.2, eT := rfl
    a0 := x0, a1 := x1, b0 := y0, b1 := y1, eh := r1, h0 := p2, h1 := by omega, hT := p3, eK := rfl, K0 := K0, K1 := by omega, low := p8, eq := p9 }⟩

/-- What fits 64 bits, as a Bool; what is answered of it, and with which number of an error. -/
def fB (x : Int) : Bool := decide (-9223372036854775808 ≤ x) && decide (x ≤ 9223372036854775807)
def oV (x : Int) : Int := if fB x then x else 0
def oE (x : Int) : Int := if fB x then 0 else 14
def jV (x y z : Int) : Int := if fB x && fB y then z else 0
def jE (x y : Int) : Int := if fB x && fB y then 0 else 14
theorem fB_iff (x : Int) : fB x = true ↔ Fit x := by unfold fB Fit; simp
theorem fB_yes {x : Int} (h : Fit x) : fB x = true := (fB_iff x).2 h
theorem fB_no {x : Int} (h : ¬ Fit x) : fB x = false := by
  cases e : fB x with
  | false => rfl
  | true => exact absurd ((fB_iff x).1 e) h

theorem wby_any (p d : Int) (w : World) (h0 : -170141183460469231731687303715884105728 ≤ p) (h1 : p < 170141183460469231731687303715884105728) (d0 : 0 < d) (d1 : d ≤ 9223372036854775807) (dv : d ∣ p) :
    Calls Try.prog 41 #[.agg #[.int .i64 (hi p), .int .u64 (lo p)], .int .i64 d] w fun e w' => e = .returned (.tuple #[.int .i64 (oV (p / d)), .int .i64 (oE (p / d))]) ∧ Grown w w' := by
  by_cases c : Fit (p / d)
  · have := wby_ok p d w h0 h1 d0 d1 dv c
    unfold oV oE; rw [fB_yes c]; exact this
  · have := wby_no p d w h0 h1 d0 d1 dv c
    unfold oV oE; rw [fB_no c]; exact this
theorem mulq_any (a b : Int) (w : World) (h0 : -9223372036854775808 ≤ a) (h1 : a ≤ 9223372036854775807) (h2 : -9223372036854775808 ≤ b) (h3 : b ≤ 9223372036854775807) :
    Calls Try.prog 34 #[.int .i64 a, .int .i64 b] w fun e w' => e = .returned (.tuple #[.int .i64 (oV (a * b)), .int .i64 (oE (a * b))]) ∧ w' = w := by
  by_cases c : Fit (a * b)
  · have := mulq_ok a b w h0 h1 h2 h3 c
    unfold oV oE; rw [fB_yes c]; exact this.mono fun _ _ h => ⟨h.1, h.2.symm⟩
  · have := mulq_no a b w h0 h1 h2 h3 c
    unfold oV oE; rw [fB_no c]; exact this.mono fun _ _ h => ⟨h.1, h.2.symm⟩
theorem joined_any (x y : Int) (w : World) : Calls Try.prog 42 #[.int .i64 (oV x), .int .i64 (oE x), .int .i64 (oV y), .int .i64 (oE y)] w fun e w' => e = .returned (.tuple #[.agg #[.int .i64 (jV x y x), .int .i64 (jV x y y)], .int .i64 (jE x y)]) ∧ Grown w w' := by
  unfold oV oE jV jE
  cases fB x <;> cases fB y
  · exact joined_no _ _ _ _ w (by simp)
  · exact joined_no _ _ _ _ w (by simp)
  · exact joined_no _ _ _ _ w (by simp)
  · exact joined_ok _ _ w

/-- Three boxes: the two that came in, and the result's own. -/
structure Boxes (k : Nat) (aN aD bN bD : Int) (w W : World) : Prop where
  a0 : W.cell? ⟨k, 0, none⟩ = some (.int .i64 aN)
  a1 : W.cell? ⟨k, 1, none⟩ = some (.int .i64 aD)
  b0 : W.cell? ⟨k + 1, 0, none⟩ = some (.int .i64 bN)
  b1 : W.cell? ⟨k + 1, 1, none⟩ = some (.int .i64 bD)
  r0 : W.cell? ⟨k + 1 + 1, 0, none⟩ = some (.int .i64 0)
  r1 : W.cell? ⟨k + 1 + 1, 1, none⟩ = some (.int .i64 0)
  f0 : W.frozen? ⟨k + 1 + 1, 0, none⟩ = false
  f1 : W.frozen? ⟨k + 1 + 1, 1, none⟩ = false
  gr : Grown w W
theorem Boxes.size {k : Nat} {aN aD bN bD : Int} {w W : World} (h : Boxes k aN aD bN bD w W) : k + 2 < W.heap.size := by
  by_cases hlt : k + 2 < W.heap.size
  · exact hlt
  · have hn : W.heap[k + 2]? = none := Array.getElem?_eq_none (by omega)
    have := h.r0
    simp [World.cell?, hn] at this
theorem Boxes.keep {k : Nat} {aN aD bN bD : Int} {w W W' : World} (h : Boxes k aN aD bN bD w W) (g : Grown W W') : Boxes k aN aD bN bD w W' :=
  ⟨gcell g h.a0, gcell g h.a1, gcell g h.b0, gcell g h.b1, gcell g h.r0, gcell g h.r1, by rw [g.2.1]; exact h.f0, by rw [g.2.1]; exact h.f1, grown_trans h.gr g⟩

theorem Sums.wide {aN aD bN bD s g P Q S T h K : Int} (su : Sums aN aD bN bD s g P Q S T h K) : -170141183460469231731687303715884105728 ≤ T ∧ T < 170141183460469231731687303715884105728 := by
  have := su.a0
  have := su.a1
  have := su.b0
  have := su.b1
  have := su.eT
  omega
theorem boxes_new (aN aD bN bD : Int) (w : World) : Boxes w.heap.size aN aD bN bD w (((w.alloc (.cells #[.int .i64 aN, .int .i64 aD] 38)).alloc (.cells #[.int .i64 bN, .int .i64 bD] 38)).alloc (.cells #[.int .i64 0, .int .i64 0] 38)) :=
  ⟨by simp [go_sem], by simp [go_sem], by simp [go_sem], by simp [go_sem], by simp [go_sem], by simp [go_sem], by simp [go_sem], by simp [go_sem], (((Grown.refl _).alloc _ _).alloc _ _).alloc _ _⟩

set_option maxHeartbeats 400000 in
theorem wproduct_at (a b : Int) (w : World) (h0 : -9223372036854775808 ≤ a) (h1 : a ≤ 9223372036854775807) (h2 : -9223372036854775808 ≤ b) (h3 : b ≤ 9223372036854775807) :
    Calls Try.prog 39 #[.int .i64 a, .int .i64 b] w fun e w' => e = .returned (.agg #[.int .i64 (hi (a * b)), .int .u64 (lo (a * b))]) ∧ w' = w.alloc (.cells #[.int .i64 (hi (a * b)), .int .u64 (lo (a * b))] 77) := by
  go_enter Try.func39, Try.ntmps39
  go_wp2_with fail
  refine (product_any _ _ _ h0 h1 h2 h3).mono ?_
  rintro e w1 ⟨rfl, rfl⟩
  go_wp2
  exact bodyPost_ret (v := .agg #[.int .i64 (hi (a * b)), .int .u64 (lo (a * b))]) (by simp [results, Try.results39, go_sem]) rfl ⟨rfl, by first | rfl | simp [go_sem]⟩

set_option maxHeartbeats 400000 in
theorem wplus_at (p r : Int) (w : World) (h0 : -85070591730234615865843651857942052864 ≤ p) (h1 : p < 85070591730234615865843651857942052864) (h2 : -85070591730234615865843651857942052864 ≤ r) (h3 : r < 85070591730234615865843651857942052864) :
    Calls Try.prog 38 #[.agg #[.int .i64 (hi p), .int .u64 (lo p)], .agg #[.int .i64 (hi r), .int .u64 (lo r)]] w fun e w' => e = .returned (.agg #[.int .i64 (hi (p + r)), .int .u64 (lo (p + r))]) ∧ w' = ((w.alloc (.cells #[.int .i64 (hi p), .int .u64 (lo p)] 77)).alloc (.cells #[.int .i64 (hi r), .int .u64 (lo r)] 77)).alloc (.cells #[.int .i64 (hi (p + r)), .int .u64 (lo (p + r))] 77) := by
  have ha := add64_run p r
  have b1 := hi_less h0 h1
  have b2 := hi_less h2 h3
  have b3 := cy_bd p r
  have E := Lib.hid (hi_add p r)
  clear h0 h1 h2 h3
  go_enter Try.func38, Try.ntmps38
  go_wp2
  exact bodyPost_ret (v := .agg #[.int .i64 (hi p + hi r + cy p r), .int .u64 (lo (p + r))]) (by simp [results, Try.results38, go_sem]) rfl ⟨ret_agg E.out rfl, by rw [← E.out]; first | done | rfl | simp [go_sem]⟩

theorem cell_old {W : World} {b o : Nat} {v : Value} (h : W.cell? ⟨b, o, none⟩ = some v) (c : Array Value) (t : TypeId) : (W.alloc (.cells c t)).cell? ⟨b, o, none⟩ = some v := gcell ((Grown.refl _).alloc _ _) h
theorem cell_drew {W : World} {a : Addr} {v : Value} (h : W.cell? a = some v) : W.drew.cell? a = some v := h
theorem cell_drewN {W : World} {a : Addr} {v : Value} (h : W.cell? a = some v) (n : Nat) : (W.drewN n).cell? a = some v := h
theorem cell_set {W : World} {b o c i : Nat} {v : Value} (h : W.cell? ⟨b, o, none⟩ = some v) (hb : b ≠ c) (u : Value) : (W.setCell ⟨c, i, none⟩ u).cell? ⟨b, o, none⟩ = some v := by
  rw [World.cell?_of_block (Below.heap_setCell W ⟨c, i, none⟩ u b hb)]; exact h

/-- The sum of both products, in a box of its own. -/
def Total (T : Int) (w : World) (x : Value) (W : World) : Prop :=
  ∃ b : Nat, x = .pointer (some ⟨b, 0, none⟩) ∧ W.cell? ⟨b, 0, none⟩ = some (.int .i64 (hi T)) ∧ W.cell? ⟨b, 1, none⟩ = some (.int .u64 (lo T)) ∧ Grown w W

set_option maxRecDepth 100000 in
set_option maxHeartbeats 1000000 in
theorem sum_any (aN aD bN bD s g P Q S T h K : Int) (w : World) (h0 : -9223372036854775808 ≤ aN) (h1 : aN ≤ 9223372036854775807) (h3 : aD ≤ 9223372036854775807) (h4 : -9223372036854775808 ≤ bN) (h5 : bN ≤ 9223372036854775807) (h7 : bD ≤ 9223372036854775807) (ma : MayR aN aD) (mb : MayR bN bD)
    (su : Sums aN aD bN bD s g P Q S T h K) :
    Calls Try.prog 32 #[.agg #[.int .i64 aN, .int .i64 aD], .agg #[.int .i64 bN, .int .i64 bD], .int .i64 s] w fun e w' => e = .returned (.tuple #[.agg #[.int .i64 (jV (T / h) (P * K) (T / h)), .int .i64 (jV (T / h) (P * K) (P * K))], .int .i64 (jE (T / h) (P * K))]) ∧ Grown w w' := by
  have a0 := ma.1
  have b0 := mb.1
  have g0 := su.g0
  have g1 := su.g1
  have P0 := su.P0
  have P1 := su.P1
  have Q0 := su.Q0
  have Q1 := su.Q1
  have S0 := su.S0
  have S1 := su.S1
  have hh0 := su.h0
  have hh1 := su.h1
  have K0 := su.K0
  have K1 := su.K1
  have MA := Lib.hid ma
  have MB := Lib.hid mb
  have SU := Lib.hid su
  have gz : ¬ g = 0 := by omega
  have hz : ¬ h = 0 := by omega
  clear ma mb su
  go_enter Try.func32, Try.ntmps32
  go_wp2_with fail
  refine (may_yes aN aD _ h0 h1 (by omega) h3 MA.out).mono ?_
  rintro e w1 ⟨rfl, k1⟩
  have bx := (boxes_new aN aD bN bD w).keep k1
  clear k1
  have ca0 := bx.a0
  have ca1 := bx.a1
  have cb0 := bx.b0
  have cb1 := bx.b1
  have BX := Lib.hid bx
  clear bx
  go_wp2_with fail
  refine (may_yes bN bD _ h4 h5 (by omega) h7 MB.out).mono ?_
  rintro e w2 ⟨rfl, k2⟩
  clear ca0 ca1 cb0 cb1
  have bx := BX.out.keep k2
  clear BX
  clear k2
  have ca0 := bx.a0
  have ca1 := bx.a1
  have cb0 := bx.b0
  have cb1 := bx.b1
  have BX := Lib.hid bx
  clear bx
  go_wp2_with fail
  refine (gcd_at aD bD g _ (by omega) h3 (by omega) h7 SU.out.eg).mono ?_
  rintro e w3 ⟨rfl, k3⟩
  clear ca0 ca1 cb0 cb1
  have bx := BX.out.keep k3
  clear BX
  clear k3
  have ca0 := bx.a0
  have ca1 := bx.a1
  have cb0 := bx.b0
  have cb1 := bx.b1
  have BX := Lib.hid bx
  clear bx
  have eP := SU.out.eP
  have eQ := SU.out.eQ
  have eP' : aD.tdiv g = P := by rw [Int.tdiv_eq_ediv_of_nonneg (by omega)]; exact eP
  have eQ' : bD.tdiv g = Q := by rw [Int.tdiv_eq_ediv_of_nonneg (by omega)]; exact eQ
  have eS := SU.out.eS
  have wP : IntKind.i64.wrap P = P := IntWalk.i64_in _ ⟨by omega, by omega⟩
  have wQ : IntKind.i64.wrap Q = Q := IntWalk.i64_in _ ⟨by omega, by omega⟩
  have wS : IntKind.i64.wrap S = S := IntWalk.i64_in _ ⟨by omega, by omega⟩
  have hz3 : w.heap.size + 2 < w3.heap.size := BX.out.size
  go_upto_region 4 with fail
  go_cut [9] (fun s9 wx => Total T w3 s9 wx)
  case first =>
    go_region_held3 (fun w' => w'.cell? ⟨w.heap.size, 0, none⟩ = some (.int .i64 aN) ∧ w'.cell? ⟨w.heap.size, 1, none⟩ = some (.int .i64 aD) ∧ w'.cell? ⟨w.heap.size + 1, 0, none⟩ = some (.int .i64 bN) ∧ w'.cell? ⟨w.heap.size + 1, 1, none⟩ = some (.int .i64 bD))
      (refine ⟨?_, ?_, ?_, ?_⟩ <;> (repeat (first | assumption | refine cell_old ?_ _ _ | refine cell_drew ?_ | refine cell_drewN ?_ _ | refine cell_set ?_ (by simp; omega) _)))
      (first
        | (go_at_call 39; refine (wproduct_at _ _ _ (by omega) (by omega) (by omega) (by omega)).mono ?_; rintro e w4 ⟨rfl, rfl⟩)
        | (go_at_call 38; refine (wplus_at _ _ _ SU.out.a0 SU.out.a1 SU.out.b0 SU.out.b1).mono ?_; rintro e w5 ⟨rfl, rfl⟩))
    all_goals (go_wp2_with fail)
    all_goals go_meet
    all_goals (rw [← SU.out.eT]; exact ⟨_, rfl, by simp [go_sem], by simp [go_sem], (((((((Grown.refl _).alloc _ _).alloc _ _).alloc _ _).alloc _ _).alloc _ _).alloc _ _).drew⟩)
  case rest =>
    clear ca0 ca1 cb0 cb1 eQ eQ' eS wQ wS hz3
    obtain ⟨b, rfl, t0, t1, gt⟩ := hcut
    rename_i wx
    have bx := BX.out.keep gt
    have B := Lib.hid SU.out.wide
    clear BX gt
    have BX := Lib.hid bx
    clear bx
    go_wp2_with fail
    refine (wrest_any T g _ B.out.1 B.out.2 g0 g1).mono ?_
    rintro e w5 ⟨rfl, k5⟩
    replace t0 := gcell k5 t0
    replace t1 := gcell k5 t1
    have bx := BX.out.keep k5
    clear BX k5
    have BX := Lib.hid bx
    clear bx
    have rb := rst_bd (p := T) g0
    go_wp2_with fail
    refine (gcd_at (rst T g) g h _ (by omega) (by omega) (by omega) g1 SU.out.eh).mono ?_
    rintro e w6 ⟨rfl, k6⟩
    replace t0 := gcell k6 t0
    replace t1 := gcell k6 t1
    have bx := BX.out.keep k6
    clear BX k6
    have BX := Lib.hid bx
    clear bx
    go_wp2_with fail
    refine (wby_any T h _ B.out.1 B.out.2 hh0 hh1 SU.out.hT).mono ?_
    rintro e w7 ⟨rfl, k7⟩
    clear t0 t1
    have bx := BX.out.keep k7
    clear BX k7
    have ca1 := bx.a1
    have cb1 := bx.b1
    have BX := Lib.hid bx
    clear bx
    have eK := SU.out.eK
    have eK' : bD.tdiv h = K := by rw [Int.tdiv_eq_ediv_of_nonneg (by omega)]; exact eK
    have wK : IntKind.i64.wrap K = K := IntWalk.i64_in _ ⟨by omega, by omega⟩
    go_wp2_with fail
    go_quiet ((go_at_call 34; exact Calls.quiet_of_same (mulq_any P K _ (by omega) P1 (by omega) K1)))
    go_wp2_with fail
    refine (joined_any (T / h) (P * K) _).mono ?_
    rintro e w8 ⟨rfl, k8⟩
    have bx := (BX.out.keep (grown_drewN (Grown.refl _) nq)).keep k8
    have r0 := bx.r0
    have r1 := bx.r1
    have f0 := bx.f0
    have f1 := bx.f1
    have gr := bx.gr
    clear bx BX k8 ca1 cb1 eK eK' wK
    go_wp2
    exact bodyPost_ret (v := .tuple #[.agg #[.int .i64 (jV (T / h) (P * K) (T / h)), .int .i64 (jV (T / h) (P * K) (P * K))], .int .i64 (jE (T / h) (P * K))]) (by simp [results, Try.results32, go_sem, r0, r1]) rfl ⟨rfl, (gr.setCell (by simp; omega) _).setCell (by simp; omega) _⟩
end Go.Proofs.Ytbimaaknjedonaa
