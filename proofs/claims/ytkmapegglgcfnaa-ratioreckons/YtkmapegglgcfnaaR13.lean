/- What RatioReckons leans on besides: the document's own functions at values handed in; its Of with the world written out. -/
import Derived.Test.YtkmapegglgcfnaaR12
namespace Go.Proofs.Ytkmapegglgcfnaa
open Go.RowKit
set_option linter.unusedVariables false

theorem set_drewN (W : World) (k : Nat) (a : Addr) (v : Value) : (W.drewN k).setCell a v = (W.setCell a v).drewN k := rfl

set_option maxHeartbeats 400000 in
theorem rof_pos_w (n d c x y : Int) (w : World) (h0 : -4611686018427387904 ≤ n) (h1 : n ≤ 4611686018427387904) (h2 : 0 < d) (h3 : d ≤ 4611686018427387904)
    (hc : gcdV n d = c) (c0 : 0 < c) (ex : n.tdiv c = x) (ey : d.tdiv c = y) (x0 : -9223372036854775808 ≤ x) (x1 : x ≤ 9223372036854775807) (y0 : 0 < y) (y1 : y ≤ 9223372036854775807) :
    Calls Try.prog 31 #[.int .i64 n, .int .i64 d] w fun e w' => e = .returned (.agg #[.int .i64 x, .int .i64 y]) ∧ ∃ j, w' = (w.alloc (.cells #[.int .i64 x, .int .i64 y] 37)).drewN j := by
  have d1 : decide (d < 0) = false := by simp; omega
  have d3 : ¬ c = 0 := by omega
  have ey' : d / c = y := by rw [← Int.tdiv_eq_ediv_of_nonneg (by omega)]; exact ey
  have HC := Lib.hid hc
  clear hc
  go_enter Try.func31, Try.ntmps31
  go_wp2_with fail
  refine (rgcdq_at n d c _ (by omega) (by omega) (by omega) (by omega) HC.out).mono ?_
  rintro e w1 ⟨rfl, j, rfl⟩
  go_wp2
  go_region
  go_wp2
  exact bodyPost_ret (v := .agg #[.int .i64 x, .int .i64 y]) (by simp [results, Try.results31, go_sem]) rfl ⟨rfl, j + 1, by rw [set_drewN, set_drewN]; simp [go_sem]⟩
set_option maxHeartbeats 400000 in
theorem rof_neg_w (n d c x y : Int) (w : World) (h0 : -4611686018427387904 ≤ n) (h1 : n ≤ 4611686018427387904) (h2 : d < 0) (h3 : -4611686018427387904 ≤ d)
    (hc : gcdV (-n) (-d) = c) (c0 : 0 < c) (ex : (-n).tdiv c = x) (ey : (-d).tdiv c = y) (x0 : -9223372036854775808 ≤ x) (x1 : x ≤ 9223372036854775807) (y0 : 0 < y) (y1 : y ≤ 9223372036854775807) :
    Calls Try.prog 31 #[.int .i64 n, .int .i64 d] w fun e w' => e = .returned (.agg #[.int .i64 x, .int .i64 y]) ∧ ∃ j, w' = (w.alloc (.cells #[.int .i64 x, .int .i64 y] 37)).drewN j := by
  have d1 : decide (d < 0) = true := by simp; omega
  have d3 : ¬ c = 0 := by omega
  have ey' : -d / c = y := by rw [← Int.tdiv_eq_ediv_of_nonneg (by omega)]; exact ey
  have HC := Lib.hid hc
  clear hc
  go_enter Try.func31, Try.ntmps31
  go_wp2_with fail
  refine (rgcdq_at (-n) (-d) c _ (by omega) (by omega) (by omega) (by omega) HC.out).mono ?_
  rintro e w1 ⟨rfl, j, rfl⟩
  go_wp2
  go_region
  go_wp2
  exact bodyPost_ret (v := .agg #[.int .i64 x, .int .i64 y]) (by simp [results, Try.results31, go_sem]) rfl ⟨rfl, j + 1, by rw [set_drewN, set_drewN]; simp [go_sem]⟩

theorem rof_w (n d : Int) (q : Rat) (w : World) (h0 : -4611686018427387904 ≤ n) (h1 : n ≤ 4611686018427387904) (h2 : -4611686018427387904 ≤ d) (h3 : d ≤ 4611686018427387904) (hd : d ≠ 0) (hq : Rat.divInt n d = q) :
    Calls Try.prog 31 #[.int .i64 n, .int .i64 d] w fun e w' => e = .returned (.agg #[.int .i64 q.num, .int .i64 (q.den : Int)]) ∧ ∃ j, w' = (w.alloc (.cells #[.int .i64 q.num, .int .i64 (q.den : Int)] 37)).drewN j := by
  rcases Int.lt_or_le d 0 with s | s
  · rcases of_parts (-n) (-d) (by omega) (by omega) (by omega) (by omega) (by omega) with ⟨c, x, y, hc, c0, c1, ex, ey, yn, x0, x1, y0, y1, cxy, e⟩ | ⟨hc, k, hn⟩
    · have yp : 0 < y := by
        have : 0 ≤ (-d).tdiv c := Int.tdiv_nonneg (by omega) (by omega)
        omega
      obtain ⟨e1, e2⟩ := low_pos (by omega) yp cxy e
      rw [Rat.neg_divInt_neg, hq] at e1 e2
      have C := rof_neg_w n d c x y w h0 h1 s h2 hc c0 ex ey x0 x1 yp y1
      rw [e1, e2] at C
      exact C
    · omega
  · rcases of_parts n d (by omega) (by omega) (by omega) (by omega) (by omega) with ⟨c, x, y, hc, c0, c1, ex, ey, yn, x0, x1, y0, y1, cxy, e⟩ | ⟨hc, k, hn⟩
    · have yp : 0 < y := by
        have : 0 ≤ d.tdiv c := Int.tdiv_nonneg (by omega) (by omega)
        omega
      obtain ⟨e1, e2⟩ := low_pos (by omega) yp cxy e
      rw [hq] at e1 e2
      have C := rof_pos_w n d c x y w h0 h1 (by omega) h3 hc c0 ex ey x0 x1 yp y1
      rw [e1, e2] at C
      exact C
    · omega
theorem rof_named (n d : Int) (q : Rat) (w : World) (h0 : -4611686018427387904 ≤ n) (h1 : n ≤ 4611686018427387904) (h2 : -4611686018427387904 ≤ d) (h3 : d ≤ 4611686018427387904) (hd : d ≠ 0) (hq : Rat.divInt n d = q) :
    Calls Try.prog 31 #[.int .i64 n, .int .i64 d] w fun e w' => e = .returned (.agg #[.int .i64 q.num, .int .i64 (q.den : Int)]) ∧ Grown w w' := by
  subst hq; exact rof_any n d w h0 h1 h2 h3 hd

/-- Two fractions in boxes of their own. -/
def Pair (x y : Rat) (w : World) (s t : Value) (W : World) : Prop :=
  ∃ b c : Nat, s = .pointer (some ⟨b, 0, none⟩) ∧ t = .pointer (some ⟨c, 0, none⟩) ∧ W.cell? ⟨b, 0, none⟩ = some (.int .i64 x.num) ∧ W.cell? ⟨b, 1, none⟩ = some (.int .i64 (x.den : Int)) ∧ W.cell? ⟨c, 0, none⟩ = some (.int .i64 y.num) ∧ W.cell? ⟨c, 1, none⟩ = some (.int .i64 (y.den : Int)) ∧ b < W.heap.size ∧ c < W.heap.size ∧ Grown w W

theorem rplus_named (a b q : Rat) (w : World) (fa : SmallQ a) (fb : SmallQ b) (hq : a + b = q) :
    Calls Try.prog 36 #[.agg #[.int .i64 a.num, .int .i64 (a.den : Int)], .agg #[.int .i64 b.num, .int .i64 (b.den : Int)]] w fun e w' => e = .returned (.agg #[.int .i64 q.num, .int .i64 (q.den : Int)]) ∧ Grown w w' := by
  subst hq; exact rplus_rat a b w fa fb
theorem rminus_named (a b q : Rat) (w : World) (fa : SmallQ a) (fb : SmallQ b) (hq : a - b = q) :
    Calls Try.prog 37 #[.agg #[.int .i64 a.num, .int .i64 (a.den : Int)], .agg #[.int .i64 b.num, .int .i64 (b.den : Int)]] w fun e w' => e = .returned (.agg #[.int .i64 q.num, .int .i64 (q.den : Int)]) ∧ Grown w w' := by
  subst hq; exact rminus_rat a b w fa fb
theorem rfloor_at (a b v : Int) (w : World) (h0 : -9223372036854775807 ≤ a) (h1 : a ≤ 9223372036854775807) (h2 : 0 < b) (h3 : b ≤ 9223372036854775807) (hv : flo a b = v) :
    Calls Try.prog 40 #[.int .i64 a, .int .i64 b] w fun e w' => e = .returned (.int .i64 v) ∧ Grown w w' := by
  rw [← hv]; exact rfloor_any a b w h0 h1 h2 h3
theorem rceil_at (a b v : Int) (w : World) (h0 : -9223372036854775807 ≤ a) (h1 : a ≤ 9223372036854775807) (h2 : 0 < b) (h3 : b ≤ 9223372036854775807) (hv : cei a b = v) :
    Calls Try.prog 42 #[.int .i64 a, .int .i64 b] w fun e w' => e = .returned (.int .i64 v) ∧ Grown w w' := by
  rw [← hv]; exact rceil_any a b w h0 h1 h2 h3
theorem rless_q (a b : Rat) (t : Bool) (w : World) (fa : FitQ a) (fb : FitQ b) (ht : decide (cmpQ a b < 0) = t) :
    Calls Try.prog 35 #[.agg #[.int .i64 a.num, .int .i64 (a.den : Int)], .agg #[.int .i64 b.num, .int .i64 (b.den : Int)]] w fun e w' => e = .returned (.bool t) ∧ Grown w w' := by
  have pa := den_pos' a
  have pb := den_pos' b
  have := rless_any a.num a.den b.num b.den w fa.lo fa.hi (by omega) fa.de fb.lo fb.hi (by omega) fb.de
  rw [← ht]; exact this
theorem cell_set3 {W : World} {b o c i : Nat} {v : Value} (h : W.cell? ⟨b, o, none⟩ = some v) (hne : b ≠ c ∨ o ≠ i) (u : Value) : (W.setCell ⟨c, i, none⟩ u).cell? ⟨b, o, none⟩ = some v := by
  have ne : (⟨c, i, none⟩ : Addr) ≠ ⟨b, o, none⟩ := by
    intro e
    injection e with e1 e2
    rcases hne with k | k
    · exact k e1.symm
    · exact k e2.symm
  exact (World.cell?_setCell_other W _ _ _ ne).trans h
theorem set_get {W : World} {a : Addr} {u : Value} (h : W.cell? a = some u) (v : Value) : (W.setCell a v).cell? a = some v := World.cell?_setCell_same _ _ _ h
/-- What stands for 'less' ahead of the second question. -/
def pick1 (t : Bool) : Int := if t then -1 else 0
theorem less_tri {x y : Rat} {tl tg : Bool} {c : Int} (h1 : decide (cmpQ x y < 0) = tl) (h2 : decide (cmpQ y x < 0) = tg) (h3 : cmpQ x y = c) : (tl = true ∧ tg = false ∧ c = -1) ∨ (tl = false ∧ tg = false ∧ c = 0) ∨ (tl = false ∧ tg = true ∧ c = 1) := by
  have s := cmpQ_swap x y
  have b := cmpQ_bd x y
  subst h1 h2 h3
  rcases Int.lt_trichotomy (cmpQ x y) 0 with k | k | k
  · exact .inl ⟨by simp [k], by simp; omega, by omega⟩
  · exact .inr (.inl ⟨by simp; omega, by simp; omega, k⟩)
  · exact .inr (.inr ⟨by simp; omega, by simp; omega, by omega⟩)
theorem prods_rat {x y : Rat} {gx gy n k e r : Int} (pr : Prods x.num x.den y.num y.den gx gy n k e r) : Rat.divInt (n * k) (e * r) = x * y := by
  have px := den_pos' x
  have py := den_pos' y
  have := Int.mul_pos pr.e0 pr.d0
  rw [mul_q, Rat.divInt_eq_divInt_iff (by omega) (Int.mul_ne_zero (by omega) (by omega))]
  exact pr.eq
theorem prod_small {x y : Rat} {gx gy n k e r : Int} (pr : Prods x.num x.den y.num y.den gx gy n k e r) (xl : -536870912 ≤ x.num) (xh : x.num ≤ 536870912) (xd : (x.den : Int) ≤ 536870912) (yl : -536870912 ≤ y.num) (yh : y.num ≤ 536870912) (yd : (y.den : Int) ≤ 536870912) (px : 0 < (x.den : Int)) (py : 0 < (y.den : Int)) :
    -536870912 ≤ n ∧ n ≤ 536870912 ∧ -536870912 ≤ k ∧ k ≤ 536870912 ∧ 0 < e ∧ e ≤ 536870912 ∧ 0 < r ∧ r ≤ 536870912 ∧ -288230376151711744 ≤ n * k ∧ n * k ≤ 288230376151711744 ∧ 0 < e * r ∧ e * r ≤ 288230376151711744 := by
  have an := Int.natAbs_tdiv_le_natAbs x.num gx
  have ak := Int.natAbs_tdiv_le_natAbs y.num gy
  rw [pr.en] at an
  rw [pr.em] at ak
  have ae : e ≤ (x.den : Int) := by rw [← pr.ee]; exact Int.ediv_le_self _ (by omega)
  have ar : r ≤ (y.den : Int) := by rw [← pr.ed]; exact Int.ediv_le_self _ (by omega)
  have e0 := pr.e0
  have r0 := pr.d0
  obtain ⟨p0, p1⟩ := prod58 (x := n) (y := k) (by omega) (by omega) (by omega) (by omega)
  obtain ⟨q0, q1⟩ := prod58 (x := e) (y := r) (by omega) (by omega) (by omega) (by omega)
  exact ⟨by omega, by omega, by omega, by omega, e0, by omega, r0, by omega, p0, p1, Int.mul_pos e0 r0, q1⟩
end Go.Proofs.Ytkmapegglgcfnaa
