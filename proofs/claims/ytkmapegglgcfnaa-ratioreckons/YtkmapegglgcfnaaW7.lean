/- Contracts of the document's own product and Cross (evenhandedref1): by sign and magnitude. -/
import Derived.Test.YtkmapegglgcfnaaW6
namespace Go.Proofs.Ytkmapegglgcfnaa
open Go.RowKit
set_option linter.unusedVariables false

theorem ret_agg3 {k l m : IntKind} {a b c d x y : Int} (h : a = b) (g : c = d) (i : x = y) : Ending.returned (.agg #[.int k a, .int l c, .int m x]) = .returned (.agg #[.int k b, .int l d, .int m y]) := by rw [h, g, i]
theorem sg_zero {p : Int} (h : p = 0) : sg p = 0 ∧ mh p = 0 ∧ ml p = 0 := by subst h; exact ⟨by decide, by decide, by decide⟩
theorem sg_pos {p : Int} (h : 0 < p) : sg p = 1 := by unfold sg; rw [if_neg (by omega), if_neg (by omega)]
theorem sg_neg {p : Int} (h : p < 0) : sg p = -1 := by unfold sg; rw [if_pos h]
theorem mul_ne {a b : Int} (ha : a ≠ 0) (hb : b ≠ 0) : a * b ≠ 0 := Int.mul_ne_zero ha hb

set_option maxHeartbeats 800000 in
theorem rproduct_any (a b : Int) (w : World) (h0 : -9223372036854775808 ≤ a) (h1 : a ≤ 9223372036854775807) (h2 : -9223372036854775808 ≤ b) (h3 : b ≤ 9223372036854775807) :
    Calls Try.prog 51 #[.int .i64 a, .int .i64 b] w fun e w' => e = .returned (.agg #[.int .i64 (sg (a * b)), .int .u64 (mh (a * b)), .int .u64 (ml (a * b))]) ∧ Grown w w' := by
  by_cases ca : a = 0
  · have z := sg_zero (p := a * b) (by rw [ca, Int.zero_mul])
    have Z := Lib.hid z
    have d1 : (a == 0) = true := by simp [ca]
    clear ca z
    go_enter Try.func51, Try.ntmps51
    go_wp2
    exact bodyPost_ret (v := .agg #[.int .i64 0, .int .u64 0, .int .u64 0]) (by simp [results, Try.results51, go_sem]) rfl ⟨ret_agg3 Z.out.1.symm Z.out.2.1.symm Z.out.2.2.symm, (Grown.refl _).alloc _ _⟩
  have d1 : (a == 0) = false := by simp [ca]
  by_cases cb : b = 0
  · have z := sg_zero (p := a * b) (by rw [cb, Int.mul_zero])
    have Z := Lib.hid z
    have d2 : (b == 0) = true := by simp [cb]
    clear ca cb z
    go_enter Try.func51, Try.ntmps51
    go_wp2
    exact bodyPost_ret (v := .agg #[.int .i64 0, .int .u64 0, .int .u64 0]) (by simp [results, Try.results51, go_sem]) rfl ⟨ret_agg3 Z.out.1.symm Z.out.2.1.symm Z.out.2.2.symm, (Grown.refl _).alloc _ _⟩
  have d2 : (b == 0) = false := by simp [cb]
  have hne := mul_ne ca cb
  by_cases c1 : a < 0 <;> by_cases c2 : b < 0
  · have S := Lib.hid (sg_pos (p := a * b) (by have := sign_same (a := a) (b := b) (by simp [c1, c2]); omega))
    have e1 : decide (a < 0) = true := by simp [c1]
    have e2 : decide (b < 0) = true := by simp [c2]
    clear ca cb hne
    go_enter Try.func51, Try.ntmps51
    go_wp2_with fail
    refine (magnitude_any _ _ h0 h1).mono ?_
    rintro e w1 ⟨rfl, rfl⟩
    go_wp2_with fail
    refine (magnitude_any _ _ h2 h3).mono ?_
    rintro e w2 ⟨rfl, rfl⟩
    go_wp2_with fail
    refine (mul64_mag _ _ _ h0 h1 h2 h3).mono ?_
    rintro e w3 ⟨rfl, rfl⟩
    go_wp2
    exact bodyPost_ret (v := .agg #[.int .i64 (1), .int .u64 (mh (a * b)), .int .u64 (ml (a * b))]) (by simp [results, Try.results51, go_sem]) rfl ⟨ret_agg3 S.out.symm rfl rfl, (Grown.refl _).alloc _ _⟩
  · have S := Lib.hid (sg_neg (p := a * b) (by have := sign_diff (a := a) (b := b) (by simp [c1, c2]); omega))
    have e1 : decide (a < 0) = true := by simp [c1]
    have e2 : decide (b < 0) = false := by simp [c2]
    clear ca cb hne
    go_enter Try.func51, Try.ntmps51
    go_wp2_with fail
    refine (magnitude_any _ _ h0 h1).mono ?_
    rintro e w1 ⟨rfl, rfl⟩
    go_wp2_with fail
    refine (magnitude_any _ _ h2 h3).mono ?_
    rintro e w2 ⟨rfl, rfl⟩
    go_wp2_with fail
    refine (mul64_mag _ _ _ h0 h1 h2 h3).mono ?_
    rintro e w3 ⟨rfl, rfl⟩
    go_wp2
    exact bodyPost_ret (v := .agg #[.int .i64 (-1), .int .u64 (mh (a * b)), .int .u64 (ml (a * b))]) (by simp [results, Try.results51, go_sem]) rfl ⟨ret_agg3 S.out.symm rfl rfl, (Grown.refl _).alloc _ _⟩
  · have S := Lib.hid (sg_neg (p := a * b) (by have := sign_diff (a := a) (b := b) (by simp [c1, c2]); omega))
    have e1 : decide (a < 0) = false := by simp [c1]
    have e2 : decide (b < 0) = true := by simp [c2]
    clear ca cb hne
    go_enter Try.func51, Try.ntmps51
    go_wp2_with fail
    refine (magnitude_any _ _ h0 h1).mono ?_
    rintro e w1 ⟨rfl, rfl⟩
    go_wp2_with fail
    refine (magnitude_any _ _ h2 h3).mono ?_
    rintro e w2 ⟨rfl, rfl⟩
    go_wp2_with fail
    refine (mul64_mag _ _ _ h0 h1 h2 h3).mono ?_
    rintro e w3 ⟨rfl, rfl⟩
    go_wp2
    exact bodyPost_ret (v := .agg #[.int .i64 (-1), .int .u64 (mh (a * b)), .int .u64 (ml (a * b))]) (by simp [results, Try.results51, go_sem]) rfl ⟨ret_agg3 S.out.symm rfl rfl, (Grown.refl _).alloc _ _⟩
  · have S := Lib.hid (sg_pos (p := a * b) (by have := sign_same (a := a) (b := b) (by simp [c1, c2]); omega))
    have e1 : decide (a < 0) = false := by simp [c1]
    have e2 : decide (b < 0) = false := by simp [c2]
    clear ca cb hne
    go_enter Try.func51, Try.ntmps51
    go_wp2_with fail
    refine (magnitude_any _ _ h0 h1).mono ?_
    rintro e w1 ⟨rfl, rfl⟩
    go_wp2_with fail
    refine (magnitude_any _ _ h2 h3).mono ?_
    rintro e w2 ⟨rfl, rfl⟩
    go_wp2_with fail
    refine (mul64_mag _ _ _ h0 h1 h2 h3).mono ?_
    rintro e w3 ⟨rfl, rfl⟩
    go_wp2
    exact bodyPost_ret (v := .agg #[.int .i64 (1), .int .u64 (mh (a * b)), .int .u64 (ml (a * b))]) (by simp [results, Try.results51, go_sem]) rfl ⟨ret_agg3 S.out.symm rfl rfl, (Grown.refl _).alloc _ _⟩

theorem mag_lt {p q : Int} (h : mh p < mh q) : p.natAbs < q.natAbs := by
  have := hi_lt h
  omega
theorem mag_lo {p q : Int} (h : mh p = mh q) : (ml p < ml q → p.natAbs < q.natAbs) ∧ (ml p = ml q → p.natAbs = q.natAbs) := by
  have := lo_lt h
  unfold ml
  omega
/-- Of one sign: the lesser magnitude decides. -/
theorem cmp_less {p q : Int} (hs : sg p = sg q) (h : p.natAbs < q.natAbs) : -sg p = cmpI p q := by
  unfold sg at *
  rcases Int.lt_trichotomy p 0 with c | c | c
  · rw [if_pos c] at hs ⊢
    have : q < 0 := by
      rcases Int.lt_trichotomy q 0 with d | d | d
      · exact d
      · rw [if_neg (by omega), if_pos d] at hs; omega
      · rw [if_neg (by omega), if_neg (by omega)] at hs; omega
    rw [cmpI_gt (by omega)]; rfl
  · rw [if_neg (by omega), if_pos c] at hs
    exfalso
    rcases Int.lt_trichotomy q 0 with d | d | d
    · rw [if_pos d] at hs; omega
    · omega
    · rw [if_neg (by omega), if_neg (by omega)] at hs; omega
  · rw [if_neg (by omega), if_neg (by omega)] at hs ⊢
    have : 0 < q := by
      rcases Int.lt_trichotomy q 0 with d | d | d
      · rw [if_pos d] at hs; omega
      · rw [if_neg (by omega), if_pos d] at hs; omega
      · exact d
    rw [cmpI_lt (by omega)]
theorem cmp_more {p q : Int} (hs : sg p = sg q) (h : q.natAbs < p.natAbs) : sg p = cmpI p q := by
  rw [cmpI_swap, ← cmp_less hs.symm h, hs, Int.neg_neg]
theorem cmp_same {p q : Int} (hs : sg p = sg q) (h : p.natAbs = q.natAbs) : 0 = cmpI p q := by
  have e : p = q := by
    unfold sg at hs
    rcases Int.lt_trichotomy p 0 with c | c | c <;> rcases Int.lt_trichotomy q 0 with d | d | d
    all_goals first | omega | (exfalso; simp [c, d] at hs; omega) | skip
    all_goals (exfalso; first | (rw [if_pos c, if_neg (by omega), if_neg (by omega)] at hs; omega) | (rw [if_neg (by omega), if_neg (by omega), if_pos d] at hs; omega))
  rw [cmpI_eq e]
theorem sg_lt {p q : Int} (h : sg p < sg q) : -1 = cmpI p q := by
  have : p < q := by
    unfold sg at h
    rcases Int.lt_trichotomy p 0 with c | c | c <;> rcases Int.lt_trichotomy q 0 with d | d | d
    all_goals first | omega | skip
    all_goals (exfalso; first | (rw [if_pos c, if_pos d] at h; omega) | (rw [if_neg (by omega), if_neg (by omega), if_pos d] at h; omega) | (rw [if_neg (by omega), if_neg (by omega), if_neg (by omega), if_neg (by omega)] at h; omega) | (rw [if_neg (by omega), if_neg (by omega), if_neg (by omega), if_pos d] at h; omega) | (rw [if_neg (by omega), if_pos c, if_pos d] at h; omega))
  rw [cmpI_lt this]
theorem sg_gt {p q : Int} (h : sg q < sg p) : 1 = cmpI p q := by
  rw [cmpI_swap, ← sg_lt h]; rfl
theorem sg_bd (p : Int) : -1 ≤ sg p ∧ sg p ≤ 1 := by unfold sg; split <;> (try split) <;> omega

set_option maxHeartbeats 1600000 in
theorem rcross_any (a b c d : Int) (w : World) (h0 : -9223372036854775808 ≤ a) (h1 : a ≤ 9223372036854775807) (h2 : -9223372036854775808 ≤ b) (h3 : b ≤ 9223372036854775807) (h4 : -9223372036854775808 ≤ c) (h5 : c ≤ 9223372036854775807) (h6 : -9223372036854775808 ≤ d) (h7 : d ≤ 9223372036854775807) :
    Calls Try.prog 22 #[.int .i64 a, .int .i64 b, .int .i64 c, .int .i64 d] w fun e w' => e = .returned (.int .i64 (cmpI (a * b) (c * d))) ∧ Grown w w' := by
  have bp := sg_bd (a * b)
  have bq := sg_bd (c * d)
  rcases Int.lt_trichotomy (sg (a * b)) (sg (c * d)) with s | s | s
  · have C := Lib.hid (sg_lt s)
    have t1 : (sg (a * b) != sg (c * d)) = true := by simp; omega
    have t2 : decide (sg (a * b) < sg (c * d)) = true := by simp [s]
    go_enter Try.func22, Try.ntmps22
    go_wp2_with fail
    refine (rproduct_any _ _ _ h0 h1 h2 h3).mono ?_
    rintro e w1 ⟨rfl, g1⟩
    go_wp2_with fail
    refine (rproduct_any _ _ _ h4 h5 h6 h7).mono ?_
    rintro e w2 ⟨rfl, g2⟩
    go_wp2
    go_ret
    exact ⟨ret_int C.out, ((grown_trans g1 g2).alloc _ _).alloc _ _⟩
  · have t1 : (sg (a * b) != sg (c * d)) = false := by simp [s]
    rcases Int.lt_trichotomy (mh (a * b)) (mh (c * d)) with m | m | m
    · have C := Lib.hid (cmp_less s (mag_lt m))
      have f0 : decide (mh (a * b) < mh (c * d)) = true := by simp; omega
      have f1 : (mh (a * b) == mh (c * d)) = false := by simp; omega
      have f2 : (mh (a * b) != mh (c * d)) = true := by simp; omega
      clear s m
      go_enter Try.func22, Try.ntmps22
      go_wp2_with fail
      refine (rproduct_any _ _ _ h0 h1 h2 h3).mono ?_
      rintro e w1 ⟨rfl, g1⟩
      go_wp2_with fail
      refine (rproduct_any _ _ _ h4 h5 h6 h7).mono ?_
      rintro e w2 ⟨rfl, g2⟩
      go_wp2
      go_ret
      exact ⟨ret_int C.out, ((grown_trans g1 g2).alloc _ _).alloc _ _⟩
    · rcases Int.lt_trichotomy (ml (a * b)) (ml (c * d)) with l | l | l
      · have C := Lib.hid (cmp_less s ((mag_lo m).1 l ))
        have f0 : decide (mh (a * b) < mh (c * d)) = false := by simp; omega
        have f1 : (mh (a * b) == mh (c * d)) = true := by simp; omega
        have f2 : (mh (a * b) != mh (c * d)) = false := by simp; omega
        have f3 : decide (ml (a * b) < ml (c * d)) = true := by simp; omega
        have f4 : (ml (a * b) != ml (c * d)) = true := by simp; omega
        clear s m l
        go_enter Try.func22, Try.ntmps22
        go_wp2_with fail
        refine (rproduct_any _ _ _ h0 h1 h2 h3).mono ?_
        rintro e w1 ⟨rfl, g1⟩
        go_wp2_with fail
        refine (rproduct_any _ _ _ h4 h5 h6 h7).mono ?_
        rintro e w2 ⟨rfl, g2⟩
        go_wp2
        go_ret
        exact ⟨ret_int C.out, ((grown_trans g1 g2).alloc _ _).alloc _ _⟩
      · have C := Lib.hid (cmp_same s ((mag_lo m).2 l ))
        have f0 : decide (mh (a * b) < mh (c * d)) = false := by simp; omega
        have f1 : (mh (a * b) == mh (c * d)) = true := by simp; omega
        have f2 : (mh (a * b) != mh (c * d)) = false := by simp; omega
        have f3 : decide (ml (a * b) < ml (c * d)) = false := by simp; omega
        have f4 : (ml (a * b) != ml (c * d)) = false := by simp; omega
        clear s m l
        go_enter Try.func22, Try.ntmps22
        go_wp2_with fail
        refine (rproduct_any _ _ _ h0 h1 h2 h3).mono ?_
        rintro e w1 ⟨rfl, g1⟩
        go_wp2_with fail
        refine (rproduct_any _ _ _ h4 h5 h6 h7).mono ?_
        rintro e w2 ⟨rfl, g2⟩
        go_wp2
        go_ret
        exact ⟨ret_int C.out, ((grown_trans g1 g2).alloc _ _).alloc _ _⟩
      · have C := Lib.hid (cmp_more s ((mag_lo m.symm).1 l ))
        have f0 : decide (mh (a * b) < mh (c * d)) = false := by simp; omega
        have f1 : (mh (a * b) == mh (c * d)) = true := by simp; omega
        have f2 : (mh (a * b) != mh (c * d)) = false := by simp; omega
        have f3 : decide (ml (a * b) < ml (c * d)) = false := by simp; omega
        have f4 : (ml (a * b) != ml (c * d)) = true := by simp; omega
        clear s m l
        go_enter Try.func22, Try.ntmps22
        go_wp2_with fail
        refine (rproduct_any _ _ _ h0 h1 h2 h3).mono ?_
        rintro e w1 ⟨rfl, g1⟩
        go_wp2_with fail
        refine (rproduct_any _ _ _ h4 h5 h6 h7).mono ?_
        rintro e w2 ⟨rfl, g2⟩
        go_wp2
        go_ret
        exact ⟨ret_int C.out, ((grown_trans g1 g2).alloc _ _).alloc _ _⟩
    · have C := Lib.hid (cmp_more s (mag_lt m))
      have f0 : decide (mh (a * b) < mh (c * d)) = false := by simp; omega
      have f1 : (mh (a * b) == mh (c * d)) = false := by simp; omega
      have f2 : (mh (a * b) != mh (c * d)) = true := by simp; omega
      clear s m
      go_enter Try.func22, Try.ntmps22
      go_wp2_with fail
      refine (rproduct_any _ _ _ h0 h1 h2 h3).mono ?_
      rintro e w1 ⟨rfl, g1⟩
      go_wp2_with fail
      refine (rproduct_any _ _ _ h4 h5 h6 h7).mono ?_
      rintro e w2 ⟨rfl, g2⟩
      go_wp2
      go_ret
      exact ⟨ret_int C.out, ((grown_trans g1 g2).alloc _ _).alloc _ _⟩
  · have C := Lib.hid (sg_gt s)
    have t1 : (sg (a * b) != sg (c * d)) = true := by simp; omega
    have t2 : decide (sg (a * b) < sg (c * d)) = false := by simp; omega
    go_enter Try.func22, Try.ntmps22
    go_wp2_with fail
    refine (rproduct_any _ _ _ h0 h1 h2 h3).mono ?_
    rintro e w1 ⟨rfl, g1⟩
    go_wp2_with fail
    refine (rproduct_any _ _ _ h4 h5 h6 h7).mono ?_
    rintro e w2 ⟨rfl, g2⟩
    go_wp2
    go_ret
    exact ⟨ret_int C.out, ((grown_trans g1 g2).alloc _ _).alloc _ _⟩
end Go.Proofs.Ytkmapegglgcfnaa
