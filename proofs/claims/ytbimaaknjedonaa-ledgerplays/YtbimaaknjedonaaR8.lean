/- Contracts of the document's own fractions (evenhandedref1): Gcd, Of, Floor, Ceil, RatMay. -/
import Derived.Test.YtbimaaknjedonaaR6
import Derived.Test.YtbimaaknjedonaaW6
namespace Go.Proofs.Ytbimaaknjedonaa
open Go.RowKit
set_option linter.unusedVariables false

set_option maxHeartbeats 400000 in
theorem rgcd_q (a b : Int) (w : World) (h0 : -9223372036854775807 ≤ a) (h1 : a ≤ 9223372036854775807) (h2 : -9223372036854775807 ≤ b) (h3 : b ≤ 9223372036854775807) :
    Calls Try.prog 27 #[.int .i64 a, .int .i64 b] w fun e w' => e = .returned (.int .i64 (gcdV a b)) ∧ ∃ j, w' = w.drewN j := by
  have ea : (if a < -a then -a else a) = (a.natAbs : Int) := by split <;> omega
  have eb : (if b < -b then -b else b) = (b.natAbs : Int) := by split <;> omega
  go_enter Try.func27, Try.ntmps27
  go_wp2
  clear ea eb
  go_loopw [0, 1] (fun x y wr => EuclidQ .i64 a b w x y wr) (fun _ y _ => (intOf y).toNat)
  case atStart => exact ⟨a.natAbs, b.natAbs, by first | rfl | exact congrArg _ (max_abs _), by first | rfl | exact congrArg _ (max_abs _), rfl, by omega, by omega, 0, drewN_zero w⟩
  case round =>
    obtain ⟨m, n, rfl, rfl, hg, hm, hn, hw⟩ := hrel
    have HG := Lib.hid hg
    have HW := Lib.hid hw
    clear hg hw
    have hle := gcd_le (a := a) (b := b) (B := 9223372036854775807) (by omega) (by omega)
    have hmg := euclid_le HG.out hle
    by_cases hz : n = 0
    · subst hz
      have he := euclid_end HG.out
      have HF : Hid ((m : Int) = gcdV a b) := by show _ = _; unfold gcdV; rw [he, if_pos (by omega)]
      clear he HG
      go_wp2
      go_ret
      exact ⟨ret_int HF.out, HW.out⟩
    · have hz1 : ((n : Int) != 0) = true := by simpa using hz
      have hz2 : ¬ (n : Int) = 0 := by omega
      go_wp2
      go_region
      go_roundw
      case rel => exact ⟨_, _, _, _, _, _, _, _, ⟨n, m % n, rfl, rfl, euclid_step HG.out, hn, Nat.le_trans (Nat.mod_le _ _) hm, drewN_more HW.out⟩, rfl⟩
      case measure => simp [intOf]; have := Nat.mod_lt m (Nat.pos_of_ne_zero hz); omega
theorem rgcdq_at (a b v : Int) (w : World) (h0 : -9223372036854775807 ≤ a) (h1 : a ≤ 9223372036854775807) (h2 : -9223372036854775807 ≤ b) (h3 : b ≤ 9223372036854775807) (hv : gcdV a b = v) :
    Calls Try.prog 27 #[.int .i64 a, .int .i64 b] w fun e w' => e = .returned (.int .i64 v) ∧ ∃ j, w' = w.drewN j := by
  rw [← hv]
  exact rgcd_q a b w h0 h1 h2 h3

set_option maxHeartbeats 400000 in
theorem rof_pos (n d c x y : Int) (w : World) (h0 : -4611686018427387904 ≤ n) (h1 : n ≤ 4611686018427387904) (h2 : 0 < d) (h3 : d ≤ 4611686018427387904)
    (hc : gcdV n d = c) (c0 : 0 < c) (ex : n.tdiv c = x) (ey : d.tdiv c = y) (x0 : -9223372036854775808 ≤ x) (x1 : x ≤ 9223372036854775807) (y0 : 0 < y) (y1 : y ≤ 9223372036854775807) :
    Calls Try.prog 19 #[.int .i64 n, .int .i64 d] w fun e w' => e = .returned (.agg #[.int .i64 x, .int .i64 y]) ∧ Grown w w' := by
  have d1 : decide (d < 0) = false := by simp; omega
  have d3 : ¬ c = 0 := by omega
  have ey' : d / c = y := by rw [← Int.tdiv_eq_ediv_of_nonneg (by omega)]; exact ey
  have HC := Lib.hid hc
  clear hc
  go_enter Try.func19, Try.ntmps19
  go_wp2_with fail
  refine (rgcdq_at n d c _ (by omega) (by omega) (by omega) (by omega) HC.out).mono ?_
  rintro e w1 ⟨rfl, j, rfl⟩
  go_wp2
  go_region
  go_wp2
  exact bodyPost_ret (v := .agg #[.int .i64 x, .int .i64 y]) (by simp [results, Try.results19, go_sem]) rfl ⟨rfl, ((grown_drewN ((Grown.refl _).alloc _ _) (j + 1)).setCell (by simp) _).setCell (by simp) _⟩
set_option maxHeartbeats 400000 in
theorem rof_neg (n d c x y : Int) (w : World) (h0 : -4611686018427387904 ≤ n) (h1 : n ≤ 4611686018427387904) (h2 : d < 0) (h3 : -4611686018427387904 ≤ d)
    (hc : gcdV (-n) (-d) = c) (c0 : 0 < c) (ex : (-n).tdiv c = x) (ey : (-d).tdiv c = y) (x0 : -9223372036854775808 ≤ x) (x1 : x ≤ 9223372036854775807) (y0 : 0 < y) (y1 : y ≤ 9223372036854775807) :
    Calls Try.prog 19 #[.int .i64 n, .int .i64 d] w fun e w' => e = .returned (.agg #[.int .i64 x, .int .i64 y]) ∧ Grown w w' := by
  have d1 : decide (d < 0) = true := by simp; omega
  have d3 : ¬ c = 0 := by omega
  have ey' : -d / c = y := by rw [← Int.tdiv_eq_ediv_of_nonneg (by omega)]; exact ey
  have HC := Lib.hid hc
  clear hc
  go_enter Try.func19, Try.ntmps19
  go_wp2_with fail
  refine (rgcdq_at (-n) (-d) c _ (by omega) (by omega) (by omega) (by omega) HC.out).mono ?_
  rintro e w1 ⟨rfl, j, rfl⟩
  go_wp2
  go_region
  go_wp2
  exact bodyPost_ret (v := .agg #[.int .i64 x, .int .i64 y]) (by simp [results, Try.results19, go_sem]) rfl ⟨rfl, ((grown_drewN ((Grown.refl _).alloc _ _) (j + 1)).setCell (by simp) _).setCell (by simp) _⟩

theorem ret_q1 {q : Rat} {x y : Int} (h : x = q.num) (g : y = (q.den : Int)) : Ending.returned (.agg #[.int .i64 x, .int .i64 y]) = .returned (.agg #[.int .i64 q.num, .int .i64 (q.den : Int)]) := by rw [h, g]

/-- The document's own Of. -/
theorem rof_any (n d : Int) (w : World) (h0 : -4611686018427387904 ≤ n) (h1 : n ≤ 4611686018427387904) (h2 : -4611686018427387904 ≤ d) (h3 : d ≤ 4611686018427387904) (hd : d ≠ 0) :
    Calls Try.prog 19 #[.int .i64 n, .int .i64 d] w fun e w' => e = .returned (.agg #[.int .i64 (Rat.divInt n d).num, .int .i64 ((Rat.divInt n d).den : Int)]) ∧ Grown w w' := by
  rcases Int.lt_or_le d 0 with s | s
  · rcases of_parts (-n) (-d) (by omega) (by omega) (by omega) (by omega) (by omega) with ⟨c, x, y, hc, c0, c1, ex, ey, yn, x0, x1, y0, y1, cxy, e⟩ | ⟨hc, k, hn⟩
    · have yp : 0 < y := by
        have : 0 ≤ (-d).tdiv c := Int.tdiv_nonneg (by omega) (by omega)
        omega
      obtain ⟨e1, e2⟩ := low_pos (by omega) yp cxy e
      rw [Rat.neg_divInt_neg] at e1 e2
      exact (rof_neg n d c x y w h0 h1 s h2 hc c0 ex ey x0 x1 yp y1).mono fun e' w' ⟨he, hg⟩ => ⟨by rw [he]; exact ret_q1 e1 e2, hg⟩
    · omega
  · rcases of_parts n d (by omega) (by omega) (by omega) (by omega) (by omega) with ⟨c, x, y, hc, c0, c1, ex, ey, yn, x0, x1, y0, y1, cxy, e⟩ | ⟨hc, k, hn⟩
    · have yp : 0 < y := by
        have : 0 ≤ d.tdiv c := Int.tdiv_nonneg (by omega) (by omega)
        omega
      obtain ⟨e1, e2⟩ := low_pos (by omega) yp cxy e
      exact (rof_pos n d c x y w h0 h1 (by omega) h3 hc c0 ex ey x0 x1 yp y1).mono fun e' w' ⟨he, hg⟩ => ⟨by rw [he]; exact ret_q1 e1 e2, hg⟩
    · omega

theorem gcd_min_nat (k : Nat) : Nat.gcd 9223372036854775808 k = 1 ↔ k % 2 = 1 := by
  have p : (9223372036854775808 : Nat) = 2 * 4611686018427387904 := by omega
  constructor
  · intro h
    rcases Nat.mod_two_eq_zero_or_one k with e | e
    · exfalso
      have d1 : 2 ∣ k := Nat.dvd_of_mod_eq_zero e
      have d2 : 2 ∣ 9223372036854775808 := ⟨_, p⟩
      have := Nat.dvd_gcd d2 d1
      rw [h] at this
      omega
    · omega
  · intro h
    have c : Nat.Coprime 2 k := by
      have : Nat.gcd 2 k = 1 := by rw [Nat.gcd_rec, show k % 2 = 1 by omega]; rfl
      exact this
    have q : (9223372036854775808 : Nat) = 2 ^ 63 := by simp
    rw [q]
    exact Nat.Coprime.pow_left 63 c
theorem gcd_cast (x : Int) (m k : Nat) (h : x.natAbs = m) : Int.gcd x (k : Int) = Nat.gcd m k := by
  rw [← h]; unfold Int.gcd; rw [Int.natAbs_natCast]
theorem gcd_min {d : Int} (h0 : 0 < d) : Int.gcd (-9223372036854775808) d = 1 ↔ d % 2 = 1 := by
  obtain ⟨k, rfl⟩ := Int.eq_ofNat_of_zero_le (Int.le_of_lt h0)
  rw [gcd_cast _ 9223372036854775808 k (by omega), gcd_min_nat]
  omega

end Go.Proofs.Ytbimaaknjedonaa
