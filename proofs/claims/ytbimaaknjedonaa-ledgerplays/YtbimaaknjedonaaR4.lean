/- Contract of ratio's Of: a fraction in lowest terms, or why there is none. -/
import Derived.Test.YtbimaaknjedonaaR3
namespace Go.Proofs.Ytbimaaknjedonaa
open Go.RowKit
set_option linter.unusedVariables false

/-- A fraction whose parts are numbers of 64 bits. -/
structure FitQ (q : Rat) : Prop where
  lo : -9223372036854775808 ≤ q.num
  hi : q.num ≤ 9223372036854775807
  de : (q.den : Int) ≤ 9223372036854775807

theorem den_pos' (q : Rat) : 0 < (q.den : Int) := by have := q.den_pos; omega
theorem mayR (q : Rat) : MayR q.num q.den := ⟨den_pos' q, rat_gcd q⟩

theorem tdiv_g {n g x : Int} (h : n = g * x) (hg : g ≠ 0) : n.tdiv g = x := by rw [h]; exact Int.mul_tdiv_cancel_left _ hg
theorem quo_in {n g x : Int} (h : n = g * x) (hg : 0 < g) (h0 : -9223372036854775808 ≤ n) (h1 : n ≤ 9223372036854775807) : -9223372036854775808 ≤ x ∧ x ≤ 9223372036854775807 := by
  have e := tdiv_g h (by omega)
  have := Int.natAbs_tdiv_le_natAbs n g
  rw [e] at this
  have s1 : 0 ≤ n → 0 ≤ x := fun hn => by rw [← e]; exact Int.tdiv_nonneg hn (by omega)
  have s2 : n ≤ 0 → x ≤ 0 := fun hn => by
    have t : 0 ≤ (-n).tdiv g := Int.tdiv_nonneg (by omega) (by omega)
    rw [Int.neg_tdiv, e] at t; omega
  omega

theorem of_parts (n d : Int) (h0 : -9223372036854775808 ≤ n) (h1 : n ≤ 9223372036854775807) (h2 : -9223372036854775808 ≤ d) (h3 : d ≤ 9223372036854775807) (hd : d ≠ 0) :
    (∃ c x y : Int, gcdV n d = c ∧ 0 < c ∧ c ≤ 9223372036854775807 ∧ n.tdiv c = x ∧ d.tdiv c = y ∧ y ≠ 0 ∧ -9223372036854775808 ≤ x ∧ x ≤ 9223372036854775807 ∧ -9223372036854775808 ≤ y ∧ y ≤ 9223372036854775807 ∧ Int.gcd x y = 1 ∧ x * d = n * y) ∨ (gcdV n d = 0 ∧ d = -9223372036854775808 ∧ (n = 0 ∨ n = -9223372036854775808)) := by
  obtain ⟨x, y, g, hg, g0, hx, hy, cxy⟩ := gcd_parts n d hd
  by_cases c : g ≤ 9223372036854775807
  · left
    have hy0 : y ≠ 0 := by rintro rfl; simp at hy; exact hd hy
    have bx := quo_in hx g0 h0 h1
    have by' := quo_in hy g0 h2 h3
    refine ⟨g, x, y, ?_, g0, c, tdiv_g hx (by omega), tdiv_g hy (by omega), hy0, bx.1, bx.2, by'.1, by'.2, cxy, by rw [hx, hy]; grind⟩
    unfold gcdV; rw [← hg, if_pos c]
  · right
    have e0 : gcdV n d = 0 := by unfold gcdV; rw [← hg, if_neg c]
    have hdg : g ≤ d.natAbs := by
      have : (Int.gcd n d) ≤ d.natAbs := Nat.gcd_le_right _ (by omega)
      omega
    have hd' : d = -9223372036854775808 := by omega
    have hg' : g = 9223372036854775808 := by omega
    refine ⟨e0, hd', ?_⟩
    rw [hg'] at hx
    omega

set_option maxHeartbeats 400000 in
theorem of_zero (n : Int) (w : World) : Calls Try.prog 33 #[.int .i64 n, .int .i64 0] w fun e w' => e = .returned (.tuple #[.agg #[.int .i64 0, .int .i64 0], .int .i64 2]) ∧ Grown w w' := by
  go_enter Try.func33, Try.ntmps33
  go_wp2
  exact bodyPost_ret (v := .tuple #[.agg #[.int .i64 0, .int .i64 0], .int .i64 2]) (by simp [results, Try.results33, go_sem]) rfl ⟨rfl, (Grown.refl _).alloc _ _⟩

theorem gcdq_at (a b v : Int) (w : World) (h0 : -9223372036854775808 ≤ a) (h1 : a ≤ 9223372036854775807) (h2 : -9223372036854775808 ≤ b) (h3 : b ≤ 9223372036854775807) (hv : gcdV a b = v) :
    Calls Try.prog 35 #[.int .i64 a, .int .i64 b] w fun e w' => e = .returned (.int .i64 v) ∧ ∃ j, w' = w.drewN j := by
  rw [← hv]
  exact gcd_q a b w h0 h1 h2 h3
theorem grown_drewN {w w' : World} (h : Grown w w') (j : Nat) : Grown w (w'.drewN j) := h

set_option maxHeartbeats 400000 in
theorem of_pos (n d c x y : Int) (w : World) (h0 : -9223372036854775808 ≤ n) (h1 : n ≤ 9223372036854775807) (h2 : -9223372036854775808 ≤ d) (h3 : d ≤ 9223372036854775807) (hd : d ≠ 0)
    (hc : gcdV n d = c) (c0 : 0 < c) (ex : n.tdiv c = x) (ey : d.tdiv c = y) (x0 : -9223372036854775808 ≤ x) (x1 : x ≤ 9223372036854775807) (y1 : y ≤ 9223372036854775807) (y0 : 0 < y) :
    Calls Try.prog 33 #[.int .i64 n, .int .i64 d] w fun e w' => e = .returned (.tuple #[.agg #[.int .i64 x, .int .i64 y], .int .i64 0]) ∧ Grown w w' := by
  have d1 : (d == 0) = false := by simpa using hd
  have d2 : (c == 0) = false := by simp; omega
  have d3 : ¬ c = 0 := by omega
  have d4 : decide (0 < y) = true := by simp [y0]
  have HC := Lib.hid hc
  clear hc hd
  go_enter Try.func33, Try.ntmps33
  go_wp2_with fail
  refine (gcdq_at n d c _ h0 h1 h2 h3 HC.out).mono ?_
  rintro e w1 ⟨rfl, j, rfl⟩
  go_wp2
  go_region
  go_wp2
  exact bodyPost_ret (v := .tuple #[.agg #[.int .i64 x, .int .i64 y], .int .i64 0]) (by simp [results, Try.results33, go_sem]) rfl ⟨rfl, ((grown_drewN ((Grown.refl _).alloc _ _) j).drew.setCell (by simp) _).setCell (by simp) _⟩

/-- What a call that makes new blocks alone leaves of the result's own box. -/
theorem kept {W w' : World} (h : Grown W w') {b : Nat} {u v : Value} (h0 : W.cell? ⟨b, 0, none⟩ = some u) (h1 : W.cell? ⟨b, 1, none⟩ = some v) (f0 : W.frozen? ⟨b, 0, none⟩ = false) (f1 : W.frozen? ⟨b, 1, none⟩ = false) :
    w'.cell? ⟨b, 0, none⟩ = some u ∧ w'.cell? ⟨b, 1, none⟩ = some v ∧ w'.frozen? ⟨b, 0, none⟩ = false ∧ w'.frozen? ⟨b, 1, none⟩ = false :=
  ⟨gcell h h0, gcell h h1, by rw [h.2.1]; exact f0, by rw [h.2.1]; exact f1⟩

set_option maxHeartbeats 400000 in
theorem of_neg (n d c x y : Int) (w : World) (h0 : -9223372036854775808 ≤ n) (h1 : n ≤ 9223372036854775807) (h2 : -9223372036854775808 ≤ d) (h3 : d ≤ 9223372036854775807) (hd : d ≠ 0)
    (hc : gcdV n d = c) (c0 : 0 < c) (ex : n.tdiv c = x) (ey : d.tdiv c = y) (x0 : -9223372036854775808 ≤ x) (x1 : x ≤ 9223372036854775807) (y1 : -9223372036854775808 ≤ y) (y0 : y < 0) (f1 : Fit (x * -1)) (f2 : Fit (y * -1)) :
    Calls Try.prog 33 #[.int .i64 n, .int .i64 d] w fun e w' => e = .returned (.tuple #[.agg #[.int .i64 (-x), .int .i64 (-y)], .int .i64 0]) ∧ Grown w w' := by
  have d1 : (d == 0) = false := by simpa using hd
  have d2 : (c == 0) = false := by simp; omega
  have d3 : ¬ c = 0 := by omega
  have d4 : decide (0 < y) = false := by simp; omega
  have HC := Lib.hid hc
  have F := Lib.hid (And.intro f1 f2)
  clear hc hd f1 f2
  go_enter Try.func33, Try.ntmps33
  go_wp2_with fail
  refine (gcdq_at n d c _ h0 h1 h2 h3 HC.out).mono ?_
  rintro e w1 ⟨rfl, j, rfl⟩
  go_wp2
  go_region
  go_wp2_with fail
  refine (mulq_ok x (-1) _ x0 x1 (by omega) (by omega) F.out.1).mono ?_
  rintro e w2 ⟨rfl, rfl⟩
  go_wp2_with fail
  refine (mulq_ok y (-1) _ y1 (by omega) (by omega) (by omega) F.out.2).mono ?_
  rintro e w2 ⟨rfl, rfl⟩
  go_wp2_with fail
  refine (joined_ok (-x) (-y) _).mono ?_
  rintro e w3 ⟨rfl, g3⟩
  obtain ⟨hc0, hc1, hf0, hf1⟩ := kept g3 (b := w.heap.size) (u := .int .i64 0) (v := .int .i64 0) (by simp [World.cell?_alloc_new]) (by simp [World.cell?_alloc_new]) (by simp) (by simp)
  go_wp2
  exact bodyPost_ret (v := .tuple #[.agg #[.int .i64 (-x), .int .i64 (-y)], .int .i64 0]) (by simp [results, Try.results33, go_sem, hc0, hc1]) rfl ⟨rfl, ((grown_trans (grown_drewN ((Grown.refl _).alloc _ _) (j + 1)) g3).setCell (by simp) _).setCell (by simp) _⟩

set_option maxHeartbeats 400000 in
theorem of_neg_a (n d c x y : Int) (w : World) (h0 : -9223372036854775808 ≤ n) (h1 : n ≤ 9223372036854775807) (h2 : -9223372036854775808 ≤ d) (h3 : d ≤ 9223372036854775807) (hd : d ≠ 0)
    (hc : gcdV n d = c) (c0 : 0 < c) (ex : n.tdiv c = x) (ey : d.tdiv c = y) (x0 : -9223372036854775808 ≤ x) (x1 : x ≤ 9223372036854775807) (y1 : -9223372036854775808 ≤ y) (y0 : y < 0) (f1 : ¬ Fit (x * -1)) (f2 : Fit (y * -1)) :
    Calls Try.prog 33 #[.int .i64 n, .int .i64 d] w fun e w' => e = .returned (.tuple #[.agg #[.int .i64 0, .int .i64 0], .int .i64 14]) ∧ Grown w w' := by
  have d1 : (d == 0) = false := by simpa using hd
  have d2 : (c == 0) = false := by simp; omega
  have d3 : ¬ c = 0 := by omega
  have d4 : decide (0 < y) = false := by simp; omega
  have HC := Lib.hid hc
  have F := Lib.hid (And.intro f1 f2)
  clear hc hd f1 f2
  go_enter Try.func33, Try.ntmps33
  go_wp2_with fail
  refine (gcdq_at n d c _ h0 h1 h2 h3 HC.out).mono ?_
  rintro e w1 ⟨rfl, j, rfl⟩
  go_wp2
  go_region
  go_wp2_with fail
  refine (mulq_no x (-1) _ x0 x1 (by omega) (by omega) F.out.1).mono ?_
  rintro e w2 ⟨rfl, rfl⟩
  go_wp2_with fail
  refine (mulq_ok y (-1) _ y1 (by omega) (by omega) (by omega) F.out.2).mono ?_
  rintro e w2 ⟨rfl, rfl⟩
  go_wp2_with fail
  refine (joined_no 0 (-y) 14 0 _ (by omega)).mono ?_
  rintro e w3 ⟨rfl, g3⟩
  obtain ⟨hc0, hc1, hf0, hf1⟩ := kept g3 (b := w.heap.size) (u := .int .i64 0) (v := .int .i64 0) (by simp [World.cell?_alloc_new]) (by simp [World.cell?_alloc_new]) (by simp) (by simp)
  go_wp2
  exact bodyPost_ret (v := .tuple #[.agg #[.int .i64 0, .int .i64 0], .int .i64 14]) (by simp [results, Try.results33, go_sem, hc0, hc1]) rfl ⟨rfl, ((grown_trans (grown_drewN ((Grown.refl _).alloc _ _) (j + 1)) g3).setCell (by simp) _).setCell (by simp) _⟩

set_option maxHeartbeats 400000 in
theorem of_neg_b (n d c x y : Int) (w : World) (h0 : -9223372036854775808 ≤ n) (h1 : n ≤ 9223372036854775807) (h2 : -9223372036854775808 ≤ d) (h3 : d ≤ 9223372036854775807) (hd : d ≠ 0)
    (hc : gcdV n d = c) (c0 : 0 < c) (ex : n.tdiv c = x) (ey : d.tdiv c = y) (x0 : -9223372036854775808 ≤ x) (x1 : x ≤ 9223372036854775807) (y1 : -9223372036854775808 ≤ y) (y0 : y < 0) (f1 : Fit (x * -1)) (f2 : ¬ Fit (y * -1)) :
    Calls Try.prog 33 #[.int .i64 n, .int .i64 d] w fun e w' => e = .returned (.tuple #[.agg #[.int .i64 0, .int .i64 0], .int .i64 14]) ∧ Grown w w' := by
  have d1 : (d == 0) = false := by simpa using hd
  have d2 : (c == 0) = false := by simp; omega
  have d3 : ¬ c = 0 := by omega
  have d4 : decide (0 < y) = false := by simp; omega
  have HC := Lib.hid hc
  have F := Lib.hid (And.intro f1 f2)
  clear hc hd f1 f2
  go_enter Try.func33, Try.ntmps33
  go_wp2_with fail
  refine (gcdq_at n d c _ h0 h1 h2 h3 HC.out).mono ?_
  rintro e w1 ⟨rfl, j, rfl⟩
  go_wp2
  go_region
  go_wp2_with fail
  refine (mulq_ok x (-1) _ x0 x1 (by omega) (by omega) F.out.1).mono ?_
  rintro e w2 ⟨rfl, rfl⟩
  go_wp2_with fail
  refine (mulq_no y (-1) _ y1 (by omega) (by omega) (by omega) F.out.2).mono ?_
  rintro e w2 ⟨rfl, rfl⟩
  go_wp2_with fail
  refine (joined_no (-x) 0 0 14 _ (by omega)).mono ?_
  rintro e w3 ⟨rfl, g3⟩
  obtain ⟨hc0, hc1, hf0, hf1⟩ := kept g3 (b := w.heap.size) (u := .int .i64 0) (v := .int .i64 0) (by simp [World.cell?_alloc_new]) (by simp [World.cell?_alloc_new]) (by simp) (by simp)
  go_wp2
  exact bodyPost_ret (v := .tuple #[.agg #[.int .i64 0, .int .i64 0], .int .i64 14]) (by simp [results, Try.results33, go_sem, hc0, hc1]) rfl ⟨rfl, ((grown_trans (grown_drewN ((Grown.refl _).alloc _ _) (j + 1)) g3).setCell (by simp) _).setCell (by simp) _⟩

set_option maxHeartbeats 400000 in
theorem of_neg_c (n d c x y : Int) (w : World) (h0 : -9223372036854775808 ≤ n) (h1 : n ≤ 9223372036854775807) (h2 : -9223372036854775808 ≤ d) (h3 : d ≤ 9223372036854775807) (hd : d ≠ 0)
    (hc : gcdV n d = c) (c0 : 0 < c) (ex : n.tdiv c = x) (ey : d.tdiv c = y) (x0 : -9223372036854775808 ≤ x) (x1 : x ≤ 9223372036854775807) (y1 : -9223372036854775808 ≤ y) (y0 : y < 0) (f1 : ¬ Fit (x * -1)) (f2 : ¬ Fit (y * -1)) :
    Calls Try.prog 33 #[.int .i64 n, .int .i64 d] w fun e w' => e = .returned (.tuple #[.agg #[.int .i64 0, .int .i64 0], .int .i64 14]) ∧ Grown w w' := by
  have d1 : (d == 0) = false := by simpa using hd
  have d2 : (c == 0) = false := by simp; omega
  have d3 : ¬ c = 0 := by omega
  have d4 : decide (0 < y) = false := by simp; omega
  have HC := Lib.hid hc
  have F := Lib.hid (And.intro f1 f2)
  clear hc hd f1 f2
  go_enter Try.func33, Try.ntmps33
  go_wp2_with fail
  refine (gcdq_at n d c _ h0 h1 h2 h3 HC.out).mono ?_
  rintro e w1 ⟨rfl, j, rfl⟩
  go_wp2
  go_region
  go_wp2_with fail
  refine (mulq_no x (-1) _ x0 x1 (by omega) (by omega) F.out.1).mono ?_
  rintro e w2 ⟨rfl, rfl⟩
  go_wp2_with fail
  refine (mulq_no y (-1) _ y1 (by omega) (by omega) (by omega) F.out.2).mono ?_
  rintro e w2 ⟨rfl, rfl⟩
  go_wp2_with fail
  refine (joined_no 0 0 14 14 _ (by omega)).mono ?_
  rintro e w3 ⟨rfl, g3⟩
  obtain ⟨hc0, hc1, hf0, hf1⟩ := kept g3 (b := w.heap.size) (u := .int .i64 0) (v := .int .i64 0) (by simp [World.cell?_alloc_new]) (by simp [World.cell?_alloc_new]) (by simp) (by simp)
  go_wp2
  exact bodyPost_ret (v := .tuple #[.agg #[.int .i64 0, .int .i64 0], .int .i64 14]) (by simp [results, Try.results33, go_sem, hc0, hc1]) rfl ⟨rfl, ((grown_trans (grown_drewN ((Grown.refl _).alloc _ _) (j + 1)) g3).setCell (by simp) _).setCell (by simp) _⟩

set_option maxHeartbeats 400000 in
theorem of_min (n x : Int) (w : World) (hc : gcdV n (-9223372036854775808) = 0) (h : (n = 0 ∧ x = 0) ∨ (n = -9223372036854775808 ∧ x = 1)) :
    Calls Try.prog 33 #[.int .i64 n, .int .i64 (-9223372036854775808)] w fun e w' => e = .returned (.tuple #[.agg #[.int .i64 x, .int .i64 1], .int .i64 0]) ∧ Grown w w' := by
  have HC := Lib.hid hc
  clear hc
  rcases h with ⟨rfl, rfl⟩ | ⟨rfl, rfl⟩
  all_goals
    go_enter Try.func33, Try.ntmps33
    go_wp2_with fail
    refine (gcdq_at _ _ 0 _ (by omega) (by omega) (by omega) (by omega) HC.out).mono ?_
    rintro e w1 ⟨rfl, j, rfl⟩
    go_wp2
    go_region
    go_wp2
  · exact bodyPost_ret (v := .tuple #[.agg #[.int .i64 0, .int .i64 1], .int .i64 0]) (by simp [results, Try.results33, go_sem]) rfl ⟨rfl, ((grown_drewN ((Grown.refl _).alloc _ _) (j + 1)).setCell (by simp) _).setCell (by simp) _⟩
  · exact bodyPost_ret (v := .tuple #[.agg #[.int .i64 1, .int .i64 1], .int .i64 0]) (by simp [results, Try.results33, go_sem]) rfl ⟨rfl, ((grown_drewN ((Grown.refl _).alloc _ _) (j + 1)).setCell (by simp) _).setCell (by simp) _⟩

theorem low_pos {n d x y : Int} (hd : d ≠ 0) (y0 : 0 < y) (c : Int.gcd x y = 1) (e : x * d = n * y) : x = (Rat.divInt n d).num ∧ y = ((Rat.divInt n d).den : Int) :=
  lowest rfl hd y0 c e
theorem low_neg {n d x y : Int} (hd : d ≠ 0) (y0 : y < 0) (c : Int.gcd x y = 1) (e : x * d = n * y) : -x = (Rat.divInt n d).num ∧ -y = ((Rat.divInt n d).den : Int) :=
  lowest rfl hd (by omega) (by simpa using c) (by rw [Int.neg_mul, e, Int.mul_neg])
theorem ret_q {q : Rat} {x y : Int} (h : x = q.num) (g : y = (q.den : Int)) : Ending.returned (.tuple #[.agg #[.int .i64 x, .int .i64 y], .int .i64 0]) = .returned (.tuple #[.agg #[.int .i64 q.num, .int .i64 (q.den : Int)], .int .i64 0]) := by rw [h, g]

/-- Of: where the fraction's parts fit it is the fraction. -/
theorem of_ok (n d : Int) (w : World) (h0 : -9223372036854775808 ≤ n) (h1 : n ≤ 9223372036854775807) (h2 : -9223372036854775808 ≤ d) (h3 : d ≤ 9223372036854775807) (hd : d ≠ 0) (hf : FitQ (Rat.divInt n d)) :
    Calls Try.prog 33 #[.int .i64 n, .int .i64 d] w fun e w' => e = .returned (.tuple #[.agg #[.int .i64 (Rat.divInt n d).num, .int .i64 ((Rat.divInt n d).den : Int)], .int .i64 0]) ∧ Grown w w' := by
  rcases of_parts n d h0 h1 h2 h3 hd with ⟨c, x, y, hc, c0, c1, ex, ey, yn, x0, x1, y0, y1, cxy, e⟩ | ⟨hc, rfl, hn⟩
  · rcases Int.lt_or_le 0 y with p | p
    · obtain ⟨e1, e2⟩ := low_pos hd p cxy e
      exact (of_pos n d c x y w h0 h1 h2 h3 hd hc c0 ex ey x0 x1 y1 p).mono fun e' w' ⟨he, hg⟩ => ⟨by rw [he]; exact ret_q e1 e2, hg⟩
    · have p' : y < 0 := by omega
      obtain ⟨e1, e2⟩ := low_neg hd p' cxy e
      have b1 := hf.lo
      have b2 := hf.hi
      have b3 := hf.de
      exact (of_neg n d c x y w h0 h1 h2 h3 hd hc c0 ex ey x0 x1 y0 p' (by unfold Fit; omega) (by unfold Fit; omega)).mono fun e' w' ⟨he, hg⟩ => ⟨by rw [he]; exact ret_q e1 e2, hg⟩
  · rcases hn with rfl | rfl
    · obtain ⟨e1, e2⟩ := low_pos (n := 0) (d := -9223372036854775808) (x := 0) (y := 1) (by omega) (by omega) (by decide) (by omega)
      exact (of_min 0 0 w hc (by omega)).mono fun e' w' ⟨he, hg⟩ => ⟨by rw [he]; exact ret_q e1 e2, hg⟩
    · obtain ⟨e1, e2⟩ := low_pos (n := -9223372036854775808) (d := -9223372036854775808) (x := 1) (y := 1) (by omega) (by omega) (by decide) (by omega)
      exact (of_min _ 1 w hc (by omega)).mono fun e' w' ⟨he, hg⟩ => ⟨by rw [he]; exact ret_q e1 e2, hg⟩

/-- .. else it says so. -/
theorem of_no (n d : Int) (w : World) (h0 : -9223372036854775808 ≤ n) (h1 : n ≤ 9223372036854775807) (h2 : -9223372036854775808 ≤ d) (h3 : d ≤ 9223372036854775807) (hd : d ≠ 0) (hf : ¬ FitQ (Rat.divInt n d)) :
    Calls Try.prog 33 #[.int .i64 n, .int .i64 d] w fun e w' => e = .returned (.tuple #[.agg #[.int .i64 0, .int .i64 0], .int .i64 14]) ∧ Grown w w' := by
  rcases of_parts n d h0 h1 h2 h3 hd with ⟨c, x, y, hc, c0, c1, ex, ey, yn, x0, x1, y0, y1, cxy, e⟩ | ⟨hc, rfl, hn⟩
  · rcases Int.lt_or_le 0 y with p | p
    · obtain ⟨e1, e2⟩ := low_pos hd p cxy e
      exact absurd ⟨by omega, by omega, by omega⟩ hf
    · have p' : y < 0 := by omega
      obtain ⟨e1, e2⟩ := low_neg hd p' cxy e
      by_cases f1 : Fit (x * -1) <;> by_cases f2 : Fit (y * -1)
      · exfalso; unfold Fit at f1 f2; exact hf ⟨by omega, by omega, by omega⟩
      · exact of_neg_b n d c x y w h0 h1 h2 h3 hd hc c0 ex ey x0 x1 y0 p' f1 f2
      · exact of_neg_a n d c x y w h0 h1 h2 h3 hd hc c0 ex ey x0 x1 y0 p' f1 f2
      · exact of_neg_c n d c x y w h0 h1 h2 h3 hd hc c0 ex ey x0 x1 y0 p' f1 f2
  · exfalso
    rcases hn with rfl | rfl
    · obtain ⟨e1, e2⟩ := low_pos (n := 0) (d := -9223372036854775808) (x := 0) (y := 1) (by omega) (by omega) (by decide) (by omega)
      exact hf ⟨by omega, by omega, by omega⟩
    · obtain ⟨e1, e2⟩ := low_pos (n := -9223372036854775808) (d := -9223372036854775808) (x := 1) (y := 1) (by omega) (by omega) (by decide) (by omega)
      exact hf ⟨by omega, by omega, by omega⟩
end Go.Proofs.Ytbimaaknjedonaa
