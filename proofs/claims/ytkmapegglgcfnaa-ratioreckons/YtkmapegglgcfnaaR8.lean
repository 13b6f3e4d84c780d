/- Contracts of the document's own fractions (evenhandedref1): Gcd, Of, Floor, Ceil, RatMay. -/
import Derived.Test.YtkmapegglgcfnaaR6
import Derived.Test.YtkmapegglgcfnaaW7
namespace Go.Proofs.Ytkmapegglgcfnaa
open Go.RowKit
set_option linter.unusedVariables false

set_option maxHeartbeats 400000 in
theorem rgcd_q (a b : Int) (w : World) (h0 : -9223372036854775807 ≤ a) (h1 : a ≤ 9223372036854775807) (h2 : -9223372036854775807 ≤ b) (h3 : b ≤ 9223372036854775807) :
    Calls Try.prog 24 #[.int .i64 a, .int .i64 b] w fun e w' => e = .returned (.int .i64 (gcdV a b)) ∧ ∃ j, w' = w.drewN j := by
  have ea : (if a < -a then -a else a) = (a.natAbs : Int) := by split <;> omega
  have eb : (if b < -b then -b else b) = (b.natAbs : Int) := by split <;> omega
  go_enter Try.func24, Try.ntmps24
  go_wp2
  clear ea eb
  go_loopw [0, 1] (fun x y wr => EuclidQ .i64 a b w x y wr) (fun _ y _ => (intOf y).toNat)
  case atStart => exact ⟨a.natAbs, b.natAbs, by first | rfl | exact congrArg _ (max_abs _), by first | rfl | exact congrArg _ (max_abs _), rfl, by omega, by omega, 0, drewN_zero w⟩
  case round =>
    obtain ⟨m, n, rfl, rfl, hg, hm, hn, hw⟩ := hrel
    have HG := Lib.hid hg
    have HW := Lib.hid hw
    clear hg hw
    have hle := gcd_le (a := a) (b := b) (B := 9223372036854775807) (by omega) (by omega)
    have hmg := euclid_le HG.out hle
    by_cases hz : n = 0
    · subst hz
      have he := euclid_end HG.out
      have HF : Hid ((m : Int) = gcdV a b) := by show _ = _; unfold gcdV; rw [he, if_pos (by omega)]
      clear he HG
      go_wp2
      go_ret
      exact ⟨ret_int HF.out, HW.out⟩
    · have hz1 : ((n : Int) != 0) = true := by simpa using hz
      have hz2 : ¬ (n : Int) = 0 := by omega
      go_wp2
      go_region
      go_roundw
      case rel => exact ⟨_, _, _, _, _, _, _, _, ⟨n, m % n, rfl, rfl, euclid_step HG.out, hn, Nat.le_trans (Nat.mod_le _ _) hm, drewN_more HW.out⟩, rfl⟩
      case measure => simp [intOf]; have := Nat.mod_lt m (Nat.pos_of_ne_zero hz); omega
theorem rgcdq_at (a b v : Int) (w : World) (h0 : -9223372036854775807 ≤ a) (h1 : a ≤ 9223372036854775807) (h2 : -9223372036854775807 ≤ b) (h3 : b ≤ 9223372036854775807) (hv : gcdV a b = v) :
    Calls Try.prog 24 #[.int .i64 a, .int .i64 b] w fun e w' => e = .returned (.int .i64 v) ∧ ∃ j, w' = w.drewN j := by
  rw [← hv]
  exact rgcd_q a b w h0 h1 h2 h3

set_option maxHeartbeats 400000 in
theorem rof_pos (n d c x y : Int) (w : World) (h0 : -4611686018427387904 ≤ n) (h1 : n ≤ 4611686018427387904) (h2 : 0 < d) (h3 : d ≤ 4611686018427387904)
    (hc : gcdV n d = c) (c0 : 0 < c) (ex : n.tdiv c = x) (ey : d.tdiv c = y) (x0 : -9223372036854775808 ≤ x) (x1 : x ≤ 9223372036854775807) (y0 : 0 < y) (y1 : y ≤ 9223372036854775807) :
    Calls Try.prog 31 #[.int .i64 n, .int .i64 d] w fun e w' => e = .returned (.agg #[.int .i64 x, .int .i64 y]) ∧ Grown w w' := by
  have d1 : decide (d < 0) = false := by simp; omega
  have d3 : ¬ c = 0 := by omega
  have ey' : d / c = y := by rw [← Int.tdiv_eq_ediv_of_nonneg (by omega)]; exact ey
  have HC := Lib.hid hc
  clear hc
  go_enter Try.func31, Try.ntmps31
  go_wp2_with fail
  refine (rgcdq_at n d c _ (by omega) (by omega) (by omega) (by omega) HC.out).mono ?_
  rintro e w1 ⟨rfl, j, rfl⟩
  go_wp2
  go_region
  go_wp2
  exact bodyPost_ret (v := .agg #[.int .i64 x, .int .i64 y]) (by simp [results, Try.results31, go_sem]) rfl ⟨rfl, ((grown_drewN ((Grown.refl _).alloc _ _) (j + 1)).setCell (by simp) _).setCell (by simp) _⟩
set_option maxHeartbeats 400000 in
theorem rof_neg (n d c x y : Int) (w : World) (h0 : -4611686018427387904 ≤ n) (h1 : n ≤ 4611686018427387904) (h2 : d < 0) (h3 : -4611686018427387904 ≤ d)
    (hc : gcdV (-n) (-d) = c) (c0 : 0 < c) (ex : (-n).tdiv c = x) (ey : (-d).tdiv c = y) (x0 : -9223372036854775808 ≤ x) (x1 : x ≤ 9223372036854775807) (y0 : 0 < y) (y1 : y ≤ 9223372036854775807) :
    Calls Try.prog 31 #[.int .i64 n, .int .i64 d] w fun e w' => e = .returned (.agg #[.int .i64 x, .int .i64 y]) ∧ Grown w w' := by
  have d1 : decide (d < 0) = true := by simp; omega
  have d3 : ¬ c = 0 := by omega
  have ey' : -d / c = y := by rw [← Int.tdiv_eq_ediv_of_nonneg (by omega)]; exact ey
  have HC := Lib.hid hc
  clear hc
  go_enter Try.func31, Try.ntmps31
  go_wp2_with fail
  refine (rgcdq_at (-n) (-d) c _ (by omega) (by omega) (by omega) (by omega) HC.out).mono ?_
  rintro e w1 ⟨rfl, j, rfl⟩
  go_wp2
  go_region
  go_wp2
  exact bodyPost_ret (v := .agg #[.int .i64 x, .int .i64 y]) (by simp [results, Try.results31, go_sem]) rfl ⟨rfl, ((grown_drewN ((Grown.refl _).alloc _ _) (j + 1)).setCell (by simp) _).setCell (by simp) _⟩

theorem ret_q1 {q : Rat} {x y : Int} (h : x = q.num) (g : y = (q.den : Int)) : Ending.returned (.agg #[.int .i64 x, .int .i64 y]) = .returned (.agg #[.int .i64 q.num, .int .i64 (q.den : Int)]) := by rw [h, g]

/-- The document's own Of. -/
theorem rof_any (n d : Int) (w : World) (h0 : -4611686018427387904 ≤ n) (h1 : n ≤ 4611686018427387904) (h2 : -4611686018427387904 ≤ d) (h3 : d ≤ 4611686018427387904) (hd : d ≠ 0) :
    Calls Try.prog 31 #[.int .i64 n, .int .i64 d] w fun e w' => e = .returned (.agg #[.int .i64 (Rat.divInt n d).num, .int .i64 ((Rat.divInt n d).den : Int)]) ∧ Grown w w' := by
  rcases Int.lt_or_le d 0 with s | s
  · rcases of_parts (-n) (-d) (by omega) (by omega) (by omega) (by omega) (by omega) with ⟨c, x, y, hc, c0, c1, ex, ey, yn, x0, x1, y0, y1, cxy, e⟩ | ⟨hc, k, hn⟩
    · have yp : 0 < y := by
        have : 0 ≤ (-d).tdiv c := Int.tdiv_nonneg (by omega) (by omega)
        omega
      obtain ⟨e1, e2⟩ := low_pos (by omega) yp cxy e
      rw [Rat.neg_divInt_neg] at e1 e2
      exact (rof_neg n d c x y w h0 h1 s h2 hc c0 ex ey x0 x1 yp y1).mono fun e' w' ⟨he, hg⟩ => ⟨by rw [he]; exact ret_q1 e1 e2, hg⟩
    · omega
  · rcases of_parts n d (by omega) (by omega) (by omega) (by omega) (by omega) with ⟨c, x, y, hc, c0, c1, ex, ey, yn, x0, x1, y0, y1, cxy, e⟩ | ⟨hc, k, hn⟩
    · have yp : 0 < y := by
        have : 0 ≤ d.tdiv c := Int.tdiv_nonneg (by omega) (by omega)
        omega
      obtain ⟨e1, e2⟩ := low_pos (by omega) yp cxy e
      exact (rof_pos n d c x y w h0 h1 (by omega) h3 hc c0 ex ey x0 x1 yp y1).mono fun e' w' ⟨he, hg⟩ => ⟨by rw [he]; exact ret_q1 e1 e2, hg⟩
    · omega

set_option maxHeartbeats 400000 in
theorem rfloor_any (a b : Int) (w : World) (h0 : -9223372036854775807 ≤ a) (h1 : a ≤ 9223372036854775807) (h2 : 0 < b) (h3 : b ≤ 9223372036854775807) :
    Calls Try.prog 40 #[.int .i64 a, .int .i64 b] w fun e w' => e = .returned (.int .i64 (flo a b)) ∧ Grown w w' := by
  have bz : ¬ b = 0 := by omega
  have tb := tdiv_bd1 (b := b) h0 h1
  obtain ⟨t0, t1⟩ := tb
  have fb := flo_bd1 (b := b) h0 h1 (by omega)
  have d2 : decide (b < 0) = false := by simp; omega
  by_cases hr : a.tmod b = 0
  · have HF : Hid (a.tdiv b = flo a b) := by show _ = _; unfold flo; rw [if_neg (by simp [hr])]
    have hr2 : (a.tmod b != 0) = false := by simpa using hr
    clear hr fb
    go_enter Try.func40, Try.ntmps40
    go_wp2
    go_ret
    exact ⟨ret_int HF.out, Grown.refl _⟩
  · have hr2 : (a.tmod b != 0) = true := by simpa using hr
    by_cases c : a < 0
    · have d1 : decide (a < 0) = true := by simp [c]
      have HF : Hid (a.tdiv b - 1 = flo a b) := by show _ = _; unfold flo; rw [if_pos ⟨hr, by simp [c]; omega⟩]
      have t2 : -9223372036854775807 ≤ a.tdiv b - 1 := by rw [HF.out]; exact fb.1
      clear hr fb
      go_enter Try.func40, Try.ntmps40
      go_wp2
      go_ret
      exact ⟨ret_int HF.out, Grown.refl _⟩
    · have d1 : decide (a < 0) = false := by simp [c]
      have HF : Hid (a.tdiv b = flo a b) := by show _ = _; unfold flo; rw [if_neg (by simp [c]; omega)]
      have ht : a.tdiv b = a / b := Int.tdiv_eq_ediv_of_nonneg (by omega)
      have hm : a.tmod b = a % b := Int.tmod_eq_emod_of_nonneg (by omega)
      have hr3 : (a % b != 0) = true := by rw [← hm]; exact hr2
      have HT := Lib.hid ht
      rw [ht] at t0 t1
      clear hr fb ht hm
      go_enter Try.func40, Try.ntmps40
      go_wp2
      go_ret
      exact ⟨ret_int (by rw [← HF.out, HT.out]), Grown.refl _⟩

set_option maxHeartbeats 400000 in
theorem rceil_any (a b : Int) (w : World) (h0 : -9223372036854775807 ≤ a) (h1 : a ≤ 9223372036854775807) (h2 : 0 < b) (h3 : b ≤ 9223372036854775807) :
    Calls Try.prog 42 #[.int .i64 a, .int .i64 b] w fun e w' => e = .returned (.int .i64 (cei a b)) ∧ Grown w w' := by
  have fb := flo_bd1 (a := -a) (b := b) (by omega) (by omega) (by omega)
  obtain ⟨f0, f1⟩ := fb
  have E : Hid (-flo (-a) b = cei a b) := by show _ = _; rw [← cei_neg (by omega), Int.neg_neg]
  go_enter Try.func42, Try.ntmps42
  go_wp2_with fail
  refine (rfloor_any (-a) b _ (by omega) (by omega) h2 h3).mono ?_
  rintro e w1 ⟨rfl, k1⟩
  go_wp2
  go_ret
  exact ⟨ret_int E.out, k1⟩

theorem gcd_min_nat (k : Nat) : Nat.gcd 9223372036854775808 k = 1 ↔ k % 2 = 1 := by
  have p : (9223372036854775808 : Nat) = 2 * 4611686018427387904 := by omega
  constructor
  · intro h
    rcases Nat.mod_two_eq_zero_or_one k with e | e
    · exfalso
      have d1 : 2 ∣ k := Nat.dvd_of_mod_eq_zero e
      have d2 : 2 ∣ 9223372036854775808 := ⟨_, p⟩
      have := Nat.dvd_gcd d2 d1
      rw [h] at this
      omega
    · omega
  · intro h
    have c : Nat.Coprime 2 k := by
      have : Nat.gcd 2 k = 1 := by rw [Nat.gcd_rec, show k % 2 = 1 by omega]; rfl
      exact this
    have q : (9223372036854775808 : Nat) = 2 ^ 63 := by simp
    rw [q]
    exact Nat.Coprime.pow_left 63 c
theorem gcd_cast (x : Int) (m k : Nat) (h : x.natAbs = m) : Int.gcd x (k : Int) = Nat.gcd m k := by
  rw [← h]; unfold Int.gcd; rw [Int.natAbs_natCast]
theorem gcd_min {d : Int} (h0 : 0 < d) : Int.gcd (-9223372036854775808) d = 1 ↔ d % 2 = 1 := by
  obtain ⟨k, rfl⟩ := Int.eq_ofNat_of_zero_le (Int.le_of_lt h0)
  rw [gcd_cast _ 9223372036854775808 k (by omega), gcd_min_nat]
  omega

set_option maxHeartbeats 400000 in
theorem ratmay_yes (n d : Int) (w : World) (h0 : -9223372036854775808 ≤ n) (h1 : n ≤ 9223372036854775807) (h2 : -9223372036854775808 ≤ d) (h3 : d ≤ 9223372036854775807) (hm : MayR n d) :
    Calls Try.prog 43 #[.agg #[.int .i64 n, .int .i64 d]] w fun e w' => e = .returned (.bool true) ∧ Grown w w' := by
  obtain ⟨m1, m2⟩ := hm
  have t1 : decide (0 < d) = true := by simp [m1]
  by_cases c : n = -9223372036854775808
  · have t2 : (n != -9223372036854775808) = false := by simp [c]
    have t3 : (n == -9223372036854775808) = true := by simp [c]
    have t4 : (d % 2 == 1) = true := by rw [c] at m2; simpa using (gcd_min m1).1 m2
    clear m2 c
    go_enter Try.func43, Try.ntmps43
    go_wp2
    go_ret
    exact ⟨rfl, (Grown.refl _).alloc _ _⟩
  · have t2 : (n != -9223372036854775808) = true := by simp [c]
    have t3 : (n == -9223372036854775808) = false := by simp [c]
    obtain ⟨g1, g2, g3⟩ := gcd_int (a := n) m1 h3
    have t4 : (gcdV n d == 1) = true := by rw [g1, m2]; rfl
    have b : -9223372036854775807 ≤ n := by omega
    clear g1 m2 c
    go_enter Try.func43, Try.ntmps43
    go_wp2_with fail
    refine (rgcd_any _ _ _ b h1 (by omega) h3).mono ?_
    rintro e w1 ⟨rfl, k1⟩
    go_wp2
    go_ret
    exact ⟨rfl, grown_trans ((Grown.refl _).alloc _ _) k1⟩

set_option maxHeartbeats 400000 in
theorem ratmay_no (n d : Int) (w : World) (h0 : -9223372036854775808 ≤ n) (h1 : n ≤ 9223372036854775807) (h2 : -9223372036854775808 ≤ d) (h3 : d ≤ 9223372036854775807) (hm : ¬ MayR n d) :
    Calls Try.prog 43 #[.agg #[.int .i64 n, .int .i64 d]] w fun e w' => e = .returned (.bool false) ∧ Grown w w' := by
  by_cases m1 : 0 < d
  · have t1 : decide (0 < d) = true := by simp [m1]
    by_cases c : n = -9223372036854775808
    · have t2 : (n != -9223372036854775808) = false := by simp [c]
      have t3 : (n == -9223372036854775808) = true := by simp [c]
      have t4 : (d % 2 == 1) = false := by
        simp only [beq_eq_false_iff_ne, ne_eq]
        intro e
        rw [c] at hm
        exact hm ⟨m1, (gcd_min m1).2 e⟩
      clear hm c
      go_enter Try.func43, Try.ntmps43
      go_wp2
      go_ret
      exact ⟨rfl, (Grown.refl _).alloc _ _⟩
    · have t2 : (n != -9223372036854775808) = true := by simp [c]
      have t3 : (n == -9223372036854775808) = false := by simp [c]
      obtain ⟨g1, g2, g3⟩ := gcd_int (a := n) m1 h3
      have t4 : (gcdV n d == 1) = false := by
        simp only [beq_eq_false_iff_ne, ne_eq]
        intro e
        exact hm ⟨m1, by omega⟩
      have b : -9223372036854775807 ≤ n := by omega
      clear g1 hm c
      go_enter Try.func43, Try.ntmps43
      go_wp2_with fail
      refine (rgcd_q _ _ _ b h1 (by omega) h3).mono ?_
      rintro e w1 ⟨rfl, j, rfl⟩
      go_wp2
      go_ret
      exact ⟨rfl, grown_drewN ((Grown.refl _).alloc _ _) j⟩
  · have t1 : decide (0 < d) = false := by simp; omega
    clear hm
    go_enter Try.func43, Try.ntmps43
    go_wp2
    go_ret
    exact ⟨rfl, (Grown.refl _).alloc _ _⟩

set_option maxHeartbeats 400000 in
theorem rless_any (aN aD bN bD : Int) (w : World) (h0 : -9223372036854775808 ≤ aN) (h1 : aN ≤ 9223372036854775807) (h2 : -9223372036854775808 ≤ aD) (h3 : aD ≤ 9223372036854775807) (h4 : -9223372036854775808 ≤ bN) (h5 : bN ≤ 9223372036854775807) (h6 : -9223372036854775808 ≤ bD) (h7 : bD ≤ 9223372036854775807) :
    Calls Try.prog 35 #[.agg #[.int .i64 aN, .int .i64 aD], .agg #[.int .i64 bN, .int .i64 bD]] w fun e w' => e = .returned (.bool (decide (cmpI (aN * bD) (bN * aD) < 0))) ∧ Grown w w' := by
  go_enter Try.func35, Try.ntmps35
  go_wp2_with fail
  refine (rcross_any aN bD bN aD _ h0 h1 h6 h7 h4 h5 h2 h3).mono ?_
  rintro e w1 ⟨rfl, k1⟩
  go_wp2
  go_ret
  exact ⟨rfl, grown_trans (((Grown.refl _).alloc _ _).alloc _ _) k1⟩
end Go.Proofs.Ytkmapegglgcfnaa
