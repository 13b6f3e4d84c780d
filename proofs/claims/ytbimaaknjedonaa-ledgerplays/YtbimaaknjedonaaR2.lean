/- Contracts of numbers of 128 bits (ratio's wide): product, plus, size, rest, by; and of joined. -/
import Derived.Test.YtbimaaknjedonaaR1
import Derived.Shelf.Spec.BitsCarry
namespace Go.Proofs.Ytbimaaknjedonaa
open Go.RowKit
set_option linter.unusedVariables false

/-- The magnitude of a number of 128 bits, in two halves; the carry of two low halves; the borrow of a low half. -/
def mg (p : Int) : Int := hi (p.natAbs : Int)
def mw (p : Int) : Int := lo (p.natAbs : Int)
def cy (p r : Int) : Int := (lo p + lo r) / 18446744073709551616
def bw (p : Int) : Int := if lo p = 0 then 0 else 1
/-- What is left of the magnitude. -/
def rst (p d : Int) : Int := (p.natAbs : Int) % d

theorem cy_bd (p r : Int) : 0 ≤ cy p r ∧ cy p r ≤ 1 := by unfold cy lo; omega
theorem bw_bd (p : Int) : 0 ≤ bw p ∧ bw p ≤ 1 := by unfold bw; split <;> omega
theorem lo_add (p r : Int) : lo (p + r) = (lo p + lo r) % 18446744073709551616 := by unfold lo; omega
theorem hi_add (p r : Int) : hi p + hi r + cy p r = hi (p + r) := by unfold hi cy lo; omega

theorem add64_run (p r : Int) (w : World) : (callFunc 47 #[.int .u64 (lo p), .int .u64 (lo r), .int .u64 0]).run Try.prog w = .ok (.value (.tuple #[.int .u64 (lo (p + r)), .int .u64 (cy p r)])) w := by
  have b1 := lo_bd p
  have b2 := lo_bd r
  rw [run_callFunc_extern Try.func47 (by kernel_rfl) (by kernel_rfl) (by kernel_rfl) (e := add64Entry) (by kernel_rfl), run_add64 _ _ _ b1.1 b2.1 (by omega) (by omega)]
  simp only [Result.andThen]
  rw [lo_add, cy, Int.add_zero]

theorem neg_lo {p : Int} (h : p < 0) (h1 : -170141183460469231731687303715884105728 ≤ p) : (((0 + 18446744073709551616 - (lo p).toNat - 0) % 18446744073709551616 : Nat) : Int) = mw p ∧ ((if 0 < (lo p).toNat + 0 then 1 else 0 : Nat) : Int) = bw p := by
  have b := lo_bd p
  refine ⟨?_, ?_⟩
  · unfold mw lo; unfold lo at b; omega
  · unfold bw
    by_cases c : lo p = 0
    · rw [if_pos c, if_neg (by omega)]; rfl
    · rw [if_neg c, if_pos (by omega)]; rfl

theorem sub64_run (p : Int) (h : p < 0) (h1 : -170141183460469231731687303715884105728 ≤ p) (w : World) : (callFunc 54 #[.int .u64 0, .int .u64 (lo p), .int .u64 0]).run Try.prog w = .ok (.value (.tuple #[.int .u64 (mw p), .int .u64 (bw p)])) w := by
  have b1 := lo_bd p
  obtain ⟨m, hm⟩ := Int.eq_ofNat_of_zero_le b1.1
  have e := neg_lo h h1
  rw [hm] at e ⊢
  have r := run_sub64 (P := Try.prog) 0 m 0 (by omega) w
  rw [run_callFunc_extern Try.func54 (by kernel_rfl) (by kernel_rfl) (by kernel_rfl) (e := sub64Entry) (by kernel_rfl)]
  have e0 : ((0 : Nat) : Int) = 0 := rfl
  rw [e0] at r
  rw [r]
  simp only [Result.andThen]
  rw [← e.1, ← e.2]
  simp only [Int.toNat_natCast]

theorem neg_hi {p : Int} (h : p < 0) (h1 : -170141183460469231731687303715884105728 ≤ p) : IntKind.u64.wrap (IntKind.u64.wrap (-IntKind.u64.wrap (hi p)) - bw p) = mg p := by
  have e : bw p = if p % 18446744073709551616 = 0 then 0 else 1 := rfl
  simp only [IntKind.wrap_u64]
  rw [e]
  unfold mg hi
  split <;> omega

theorem pos_mg {p : Int} (h : 0 ≤ p) : mg p = hi p ∧ mw p = lo p := by
  have : (p.natAbs : Int) = p := by omega
  unfold mg mw
  rw [this]
  exact ⟨rfl, rfl⟩
theorem hi_less {p : Int} (h0 : -85070591730234615865843651857942052864 ≤ p) (h1 : p < 85070591730234615865843651857942052864) : -4611686018427387904 ≤ hi p ∧ hi p < 4611686018427387904 := by unfold hi; omega
theorem gcell {w w' : World} (h : Grown w w') {b o : Nat} {v : Value} (hc : w.cell? ⟨b, o, none⟩ = some v) : w'.cell? ⟨b, o, none⟩ = some v := by
  have hb : b < w.heap.size := by
    by_cases hlt : b < w.heap.size
    · exact hlt
    · have hn : w.heap[b]? = none := Array.getElem?_eq_none (by omega)
      simp [World.cell?, hn] at hc
  rw [h.1.cell hb (fun f => f)]
  exact hc
theorem hi_sign (p : Int) : hi p < 0 ↔ p < 0 := by unfold hi; omega
theorem hi_wide {p : Int} (h0 : -170141183460469231731687303715884105728 ≤ p) (h1 : p < 170141183460469231731687303715884105728) : -9223372036854775808 ≤ hi p ∧ hi p ≤ 9223372036854775807 := by unfold hi; omega

set_option maxHeartbeats 400000 in
theorem wproduct_any (a b : Int) (w : World) (h0 : -9223372036854775808 ≤ a) (h1 : a ≤ 9223372036854775807) (h2 : -9223372036854775808 ≤ b) (h3 : b ≤ 9223372036854775807) :
    Calls Try.prog 39 #[.int .i64 a, .int .i64 b] w fun e w' => e = .returned (.agg #[.int .i64 (hi (a * b)), .int .u64 (lo (a * b))]) ∧ Grown w w' := by
  go_enter Try.func39, Try.ntmps39
  go_wp2_with fail
  refine (product_any _ _ _ h0 h1 h2 h3).mono ?_
  rintro e w1 ⟨rfl, rfl⟩
  go_wp2
  exact bodyPost_ret (v := .agg #[.int .i64 (hi (a * b)), .int .u64 (lo (a * b))]) (by simp [results, Try.results39, go_sem]) rfl ⟨rfl, (Grown.refl _).alloc _ _⟩

set_option maxHeartbeats 400000 in
theorem wplus_any (p r : Int) (w : World) (h0 : -85070591730234615865843651857942052864 ≤ p) (h1 : p < 85070591730234615865843651857942052864) (h2 : -85070591730234615865843651857942052864 ≤ r) (h3 : r < 85070591730234615865843651857942052864) :
    Calls Try.prog 38 #[.agg #[.int .i64 (hi p), .int .u64 (lo p)], .agg #[.int .i64 (hi r), .int .u64 (lo r)]] w fun e w' => e = .returned (.agg #[.int .i64 (hi (p + r)), .int .u64 (lo (p + r))]) ∧ Grown w w' := by
  have ha := add64_run p r
  have b1 := hi_less h0 h1
  have b2 := hi_less h2 h3
  have b3 := cy_bd p r
  have E := Lib.hid (hi_add p r)
  clear h0 h1 h2 h3
  go_enter Try.func38, Try.ntmps38
  go_wp2
  exact bodyPost_ret (v := .agg #[.int .i64 (hi p + hi r + cy p r), .int .u64 (lo (p + r))]) (by simp [results, Try.results38, go_sem]) rfl ⟨ret_agg E.out rfl, (((Grown.refl _).alloc _ _).alloc _ _).alloc _ _⟩

set_option maxHeartbeats 400000 in
theorem wsize_any (p : Int) (w : World) (h0 : -170141183460469231731687303715884105728 ≤ p) (h1 : p < 170141183460469231731687303715884105728) :
    Calls Try.prog 48 #[.agg #[.int .i64 (hi p), .int .u64 (lo p)]] w fun e w' => e = .returned (.tuple #[.int .u64 (mg p), .int .u64 (mw p)]) ∧ Grown w w' := by
  have b1 := hi_wide h0 h1
  have b2 := lo_bd p
  have b3 := bw_bd p
  rcases Int.lt_or_le p 0 with c | c
  · have hs := sub64_run p c h0
    have E := Lib.hid (neg_hi c h0)
    have t := (hi_sign p).2 c
    have t1 : decide (0 ≤ hi p) = false := by simp; omega
    clear h0 h1 c
    go_enter Try.func48, Try.ntmps48
    go_wp2
    go_ret2
    exact ⟨ret_two E.out rfl, (Grown.refl _).alloc _ _⟩
  · have E := Lib.hid (pos_mg c)
    have t : 0 ≤ hi p := by have := hi_sign p; omega
    have t1 : decide (0 ≤ hi p) = true := by simp; omega
    clear h0 h1 c
    go_enter Try.func48, Try.ntmps48
    go_wp2
    go_region
    go_wp2
    go_ret2
    exact ⟨ret_two E.out.1.symm E.out.2.symm, ((Grown.refl _).alloc _ _).drew⟩

/-- The magnitude's halves as naturals. -/
theorem mag_nat (p : Int) (h0 : -170141183460469231731687303715884105728 ≤ p) (h1 : p < 170141183460469231731687303715884105728) : ∃ m n : Nat, mg p = (m : Int) ∧ mw p = (n : Int) ∧ m < 18446744073709551616 ∧ n < 18446744073709551616 ∧ m * 18446744073709551616 + n = p.natAbs := by
  refine ⟨p.natAbs / 18446744073709551616, p.natAbs % 18446744073709551616, ?_, ?_, ?_, ?_, ?_⟩
  · unfold mg hi; omega
  · unfold mw lo; omega
  · omega
  · omega
  · omega

theorem rem_at (p d : Int) (w : World) (h0 : -170141183460469231731687303715884105728 ≤ p) (h1 : p < 170141183460469231731687303715884105728) (d0 : 0 < d) (d1 : d ≤ 9223372036854775807) :
    Calls Try.prog 49 #[.int .u64 (mg p), .int .u64 (mw p), .int .u64 d] w fun e w' => e = .returned (.int .u64 (rst p d)) ∧ Grown w w' := by
  obtain ⟨m, n, em, en, hm, hn, e⟩ := mag_nat p h0 h1
  obtain ⟨y, rfl⟩ := Int.eq_ofNat_of_zero_le (Int.le_of_lt d0)
  rw [em, en]
  refine (rem64_any m n y w (by omega) (by omega) hm hn).mono ?_
  rintro e' w' ⟨rfl, hg⟩
  exact ⟨ret_int (by rw [e]; unfold rst; simp), hg⟩

theorem div_at (p d : Int) (w : World) (h0 : -170141183460469231731687303715884105728 ≤ p) (h1 : p < 170141183460469231731687303715884105728) (d1 : d ≤ 9223372036854775807) (hd : mg p < d) :
    Calls Try.prog 50 #[.int .u64 (mg p), .int .u64 (mw p), .int .u64 d] w fun e w' => e = .returned (.tuple #[.int .u64 ((p.natAbs : Int) / d), .int .u64 (rst p d)]) ∧ Grown w w' := by
  obtain ⟨m, n, em, en, hm, hn, e⟩ := mag_nat p h0 h1
  obtain ⟨y, rfl⟩ := Int.eq_ofNat_of_zero_le (show 0 ≤ d by omega)
  rw [em] at hd
  rw [em, en]
  refine (div64_any m n y w (by omega) (by omega) hn).mono ?_
  rintro e' w' ⟨rfl, hg⟩
  exact ⟨ret_two (by rw [e]; simp) (by rw [e]; unfold rst; simp), hg⟩

theorem rst_bd {p d : Int} (d0 : 0 < d) : 0 ≤ rst p d ∧ rst p d < d := by
  unfold rst
  exact ⟨Int.emod_nonneg _ (by omega), Int.emod_lt_of_pos _ d0⟩

set_option maxHeartbeats 400000 in
theorem wrest_any (p d : Int) (w : World) (h0 : -170141183460469231731687303715884105728 ≤ p) (h1 : p < 170141183460469231731687303715884105728) (d0 : 0 < d) (d1 : d ≤ 9223372036854775807) :
    Calls Try.prog 40 #[.agg #[.int .i64 (hi p), .int .u64 (lo p)], .int .i64 d] w fun e w' => e = .returned (.int .i64 (rst p d)) ∧ Grown w w' := by
  have C := Lib.hid (And.intro h0 h1)
  clear h0 h1
  have b := rst_bd (p := p) d0
  go_enter Try.func40, Try.ntmps40
  go_wp2_with fail
  refine (wsize_any p _ C.out.1 C.out.2).mono ?_
  rintro e w1 ⟨rfl, g1⟩
  go_wp2_with fail
  refine (rem_at p d _ C.out.1 C.out.2 d0 d1).mono ?_
  rintro e w2 ⟨rfl, g2⟩
  go_wp2
  go_ret
  exact ⟨rfl, grown_trans (grown_trans ((Grown.refl _).alloc _ _) g1) g2⟩

/-- By a divisor: what fits and what does not. -/
theorem by_facts {p d : Int} (d0 : 0 < d) (d1 : d ≤ 9223372036854775807) (dv : d ∣ p) :
    (0 ≤ p → (p.natAbs : Int) / d = p / d ∧ 0 ≤ p / d) ∧ (p < 0 → (p.natAbs : Int) / d = -(p / d) ∧ p / d < 0) := by
  obtain ⟨k, rfl⟩ := dv
  rw [Int.mul_ediv_cancel_left _ (by omega)]
  refine ⟨fun h => ?_, fun h => ?_⟩
  · have hk : 0 ≤ k := by
      rcases Int.lt_or_le k 0 with c | c
      · have := Int.mul_neg_of_pos_of_neg d0 c; omega
      · exact c
    have : ((d * k).natAbs : Int) = d * k := by omega
    rw [this, Int.mul_ediv_cancel_left _ (by omega)]
    exact ⟨rfl, hk⟩
  · have hk : k < 0 := by
      rcases Int.lt_or_le k 0 with c | c
      · exact c
      · have := Int.mul_nonneg (Int.le_of_lt d0) c; omega
    have : ((d * k).natAbs : Int) = d * (-k) := by rw [Int.mul_neg]; omega
    rw [this, Int.mul_ediv_cancel_left _ (by omega)]
    exact ⟨rfl, hk⟩
theorem by_mag {p d : Int} (d0 : 0 < d) (hd : mg p < d) : 0 ≤ (p.natAbs : Int) / d ∧ (p.natAbs : Int) / d < 18446744073709551616 := by
  refine ⟨Int.ediv_nonneg (by omega) (by omega), ?_⟩
  rw [Int.ediv_lt_iff_lt_mul d0]
  unfold mg hi at hd
  omega
theorem by_over {p d : Int} (d0 : 0 < d) (hd : d ≤ mg p) : 18446744073709551616 ≤ (p.natAbs : Int) / d := by
  rw [Int.le_ediv_iff_mul_le d0]
  unfold mg hi at hd
  omega

theorem by_neg {x : Int} (h0 : 0 < x) (h1 : x ≤ 9223372036854775808) : wrap64 (-wrap64 x) = -x ∧ wrap64 (-wrap64 x) < 0 := by unfold wrap64; omega
theorem by_neg_no {x : Int} (h0 : 9223372036854775808 < x) (h1 : x < 18446744073709551616) : ¬ wrap64 (-wrap64 x) < 0 := by unfold wrap64; omega
theorem by_pos_no {x : Int} (h0 : 9223372036854775807 < x) (h1 : x < 18446744073709551616) : wrap64 x < 0 := by unfold wrap64; omega

set_option maxHeartbeats 400000 in
theorem wby_ok (p d : Int) (w : World) (h0 : -170141183460469231731687303715884105728 ≤ p) (h1 : p < 170141183460469231731687303715884105728) (d0 : 0 < d) (d1 : d ≤ 9223372036854775807) (dv : d ∣ p) (hf : Fit (p / d)) :
    Calls Try.prog 41 #[.agg #[.int .i64 (hi p), .int .u64 (lo p)], .int .i64 d] w fun e w' => e = .returned (.tuple #[.int .i64 (p / d), .int .i64 0]) ∧ Grown w w' := by
  obtain ⟨f1, f2⟩ := by_facts d0 d1 dv
  have hs := hi_sign p
  unfold Fit at hf
  have nd : ¬ d ≤ mg p := fun hd => by
    have := by_over d0 hd
    rcases Int.lt_or_le p 0 with c | c
    · have := f2 c; omega
    · have := f1 c; omega
  have hd : mg p < d := by omega
  have t1 : decide (d ≤ mg p) = false := by simp; omega
  have bm := by_mag d0 hd
  have C := Lib.hid (And.intro h0 h1)
  clear h0 h1 dv
  rcases Int.lt_or_le p 0 with c | c
  · have t2 : decide (hi p < 0) = true := by simp; omega
    obtain ⟨e1, e2⟩ := f2 c
    obtain ⟨n1, n2⟩ := by_neg (x := (p.natAbs : Int) / d) (by omega) (by omega)
    have t3 : decide (wrap64 (-wrap64 ((p.natAbs : Int) / d)) < 0) = true := by simp; omega
    have E : Hid (wrap64 (-wrap64 ((p.natAbs : Int) / d)) = p / d) := by show _ = _; omega
    clear f1 f2 hs e1 n1
    go_enter Try.func41, Try.ntmps41
    go_wp2_with fail
    refine (wsize_any p _ C.out.1 C.out.2).mono ?_
    rintro e w1 ⟨rfl, g1⟩
    go_wp2_with fail
    refine (div_at p d _ C.out.1 C.out.2 d1 hd).mono ?_
    rintro e w2 ⟨rfl, g2⟩
    have hc : w2.cell? ⟨w.heap.size, 0, none⟩ = some (.int .i64 (hi p)) := gcell (grown_trans g1 g2) (by simp [World.cell?_alloc_new])
    go_wp2
    go_ret2
    exact ⟨ret_two E.out rfl, grown_trans (grown_trans ((Grown.refl _).alloc _ _) g1) g2⟩
  · have t2 : decide (hi p < 0) = false := by simp; omega
    obtain ⟨e1, e2⟩ := f1 c
    have ew : wrap64 ((p.natAbs : Int) / d) = (p.natAbs : Int) / d := IntWalk.wrap64_in _ ⟨by omega, by omega⟩
    have t3 : decide (wrap64 ((p.natAbs : Int) / d) < 0) = false := by rw [ew]; simp; omega
    have E : Hid (wrap64 ((p.natAbs : Int) / d) = p / d) := by show _ = _; omega
    clear f1 f2 hs e1 ew
    go_enter Try.func41, Try.ntmps41
    go_wp2_with fail
    refine (wsize_any p _ C.out.1 C.out.2).mono ?_
    rintro e w1 ⟨rfl, g1⟩
    go_wp2_with fail
    refine (div_at p d _ C.out.1 C.out.2 d1 hd).mono ?_
    rintro e w2 ⟨rfl, g2⟩
    have hc : w2.cell? ⟨w.heap.size, 0, none⟩ = some (.int .i64 (hi p)) := gcell (grown_trans g1 g2) (by simp [World.cell?_alloc_new])
    go_wp2
    go_ret2
    exact ⟨ret_two E.out rfl, grown_trans (grown_trans ((Grown.refl _).alloc _ _) g1) g2⟩

set_option maxHeartbeats 400000 in
theorem wby_no (p d : Int) (w : World) (h0 : -170141183460469231731687303715884105728 ≤ p) (h1 : p < 170141183460469231731687303715884105728) (d0 : 0 < d) (d1 : d ≤ 9223372036854775807) (dv : d ∣ p) (hf : ¬ Fit (p / d)) :
    Calls Try.prog 41 #[.agg #[.int .i64 (hi p), .int .u64 (lo p)], .int .i64 d] w fun e w' => e = .returned (.tuple #[.int .i64 0, .int .i64 14]) ∧ Grown w w' := by
  obtain ⟨f1, f2⟩ := by_facts d0 d1 dv
  have hs := hi_sign p
  unfold Fit at hf
  have C := Lib.hid (And.intro h0 h1)
  clear h0 h1 dv
  by_cases hd : d ≤ mg p
  · have t1 : decide (d ≤ mg p) = true := by simp; omega
    clear hf f1 f2 hs
    go_enter Try.func41, Try.ntmps41
    go_wp2_with fail
    refine (wsize_any p _ C.out.1 C.out.2).mono ?_
    rintro e w1 ⟨rfl, g1⟩
    go_wp2
    go_ret2
    exact ⟨rfl, grown_trans ((Grown.refl _).alloc _ _) g1⟩
  have t1 : decide (d ≤ mg p) = false := by simp; omega
  have hd : mg p < d := by omega
  have bm := by_mag d0 hd
  rcases Int.lt_or_le p 0 with c | c
  · have t2 : decide (hi p < 0) = true := by simp; omega
    obtain ⟨e1, e2⟩ := f2 c
    have n2 := by_neg_no (x := (p.natAbs : Int) / d) (by omega) (by omega)
    have t3 : decide (wrap64 (-wrap64 ((p.natAbs : Int) / d)) < 0) = false := by simp; omega
    clear f1 f2 hs e1 hf
    go_enter Try.func41, Try.ntmps41
    go_wp2_with fail
    refine (wsize_any p _ C.out.1 C.out.2).mono ?_
    rintro e w1 ⟨rfl, g1⟩
    go_wp2_with fail
    refine (div_at p d _ C.out.1 C.out.2 d1 hd).mono ?_
    rintro e w2 ⟨rfl, g2⟩
    have hc : w2.cell? ⟨w.heap.size, 0, none⟩ = some (.int .i64 (hi p)) := gcell (grown_trans g1 g2) (by simp [World.cell?_alloc_new])
    go_wp2
    go_ret2
    exact ⟨rfl, grown_trans (grown_trans ((Grown.refl _).alloc _ _) g1) g2⟩
  · have t2 : decide (hi p < 0) = false := by simp; omega
    obtain ⟨e1, e2⟩ := f1 c
    have n2 := by_pos_no (x := (p.natAbs : Int) / d) (by omega) (by omega)
    have t3 : decide (wrap64 ((p.natAbs : Int) / d) < 0) = true := by simp; omega
    clear f1 f2 hs e1 hf
    go_enter Try.func41, Try.ntmps41
    go_wp2_with fail
    refine (wsize_any p _ C.out.1 C.out.2).mono ?_
    rintro e w1 ⟨rfl, g1⟩
    go_wp2_with fail
    refine (div_at p d _ C.out.1 C.out.2 d1 hd).mono ?_
    rintro e w2 ⟨rfl, g2⟩
    have hc : w2.cell? ⟨w.heap.size, 0, none⟩ = some (.int .i64 (hi p)) := gcell (grown_trans g1 g2) (by simp [World.cell?_alloc_new])
    go_wp2
    go_ret2
    exact ⟨rfl, grown_trans (grown_trans ((Grown.refl _).alloc _ _) g1) g2⟩

set_option maxHeartbeats 400000 in
theorem joined_ok (n d : Int) (w : World) : Calls Try.prog 42 #[.int .i64 n, .int .i64 0, .int .i64 d, .int .i64 0] w fun e w' => e = .returned (.tuple #[.agg #[.int .i64 n, .int .i64 d], .int .i64 0]) ∧ Grown w w' := by
  go_enter Try.func42, Try.ntmps42
  go_wp2
  exact bodyPost_ret (v := .tuple #[.agg #[.int .i64 n, .int .i64 d], .int .i64 0]) (by simp [results, Try.results42, go_sem]) rfl ⟨rfl, (Grown.refl _).alloc _ _⟩

set_option maxHeartbeats 400000 in
theorem joined_no (n d a b : Int) (w : World) (h : a = 14 ∨ (a = 0 ∧ b = 14)) : Calls Try.prog 42 #[.int .i64 n, .int .i64 a, .int .i64 d, .int .i64 b] w fun e w' => e = .returned (.tuple #[.agg #[.int .i64 0, .int .i64 0], .int .i64 14]) ∧ Grown w w' := by
  rcases h with rfl | ⟨rfl, rfl⟩
  · go_enter Try.func42, Try.ntmps42
    go_wp2
    exact bodyPost_ret (v := .tuple #[.agg #[.int .i64 0, .int .i64 0], .int .i64 14]) (by simp [results, Try.results42, go_sem]) rfl ⟨rfl, (Grown.refl _).alloc _ _⟩
  · go_enter Try.func42, Try.ntmps42
    go_wp2
    exact bodyPost_ret (v := .tuple #[.agg #[.int .i64 0, .int .i64 0], .int .i64 14]) (by simp [results, Try.results42, go_sem]) rfl ⟨rfl, (Grown.refl _).alloc _ _⟩
end Go.Proofs.Ytbimaaknjedonaa
