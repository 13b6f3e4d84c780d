/- How fractions compare, how great their whole parts may be; contracts at a whole number. -/
import Derived.Test.YtkmapegglgcfnaaR10
namespace Go.Proofs.Ytkmapegglgcfnaa
open Go.RowKit
set_option linter.unusedVariables false

theorem cmpQ_lt {a b : Rat} (h : a < b) : cmpQ a b = -1 := cmpI_lt ((Rat.lt_iff a b).1 h)
theorem cmpQ_gt {a b : Rat} (h : b < a) : cmpQ a b = 1 := cmpI_gt ((Rat.lt_iff b a).1 h)
theorem cmpQ_self (a : Rat) : cmpQ a a = 0 := cmpI_eq rfl
theorem cmpQ_bd (a b : Rat) : -1 ≤ cmpQ a b ∧ cmpQ a b ≤ 1 := cmpI_bd _ _
theorem cmpQ_swap (a b : Rat) : cmpQ a b = -cmpQ b a := cmpI_swap _ _
theorem lt_tri (a b : Rat) : a < b ∨ a = b ∨ b < a := by
  rcases Int.lt_trichotomy (a.num * b.den) (b.num * a.den) with h | h | h
  · exact .inl ((Rat.lt_iff a b).2 h)
  · exact .inr (.inl (Rat.eq_iff_mul_eq_mul.2 h))
  · exact .inr (.inr ((Rat.lt_iff b a).2 h))
theorem cmpQ_le {a b : Rat} (h : a ≤ b) : cmpQ a b ≤ 0 := by
  rcases Rat.le_iff_lt_or_eq.1 h with h | rfl
  · rw [cmpQ_lt h]; decide
  · rw [cmpQ_self]; decide
theorem cmpQ_ge {a b : Rat} (h : b ≤ a) : 0 ≤ cmpQ a b := by
  rw [cmpQ_swap]; have := cmpQ_le h; omega
theorem cmpQ_same {a b c d : Rat} (h1 : a < b ↔ c < d) (h2 : b < a ↔ d < c) : cmpQ a b = cmpQ c d := by
  rcases lt_tri a b with h | h | h
  · rw [cmpQ_lt h, cmpQ_lt (h1.1 h)]
  · have : c = d := by
      rcases lt_tri c d with k | k | k
      · exact absurd (h1.2 k) (by rw [h]; exact Rat.lt_irrefl)
      · exact k
      · exact absurd (h2.2 k) (by rw [h]; exact Rat.lt_irrefl)
    rw [h, this, cmpQ_self, cmpQ_self]
  · rw [cmpQ_gt h, cmpQ_gt (h2.1 h)]

theorem ediv_in {n d : Int} {A : Nat} (hd : 0 < d) (hn : n.natAbs ≤ A) : -(A : Int) ≤ n / d ∧ n / d ≤ A := by
  have h := Int.natAbs_ediv_le_natAbs n d
  rcases Int.lt_or_le n 0 with c | c
  · have : n / d < 0 := Int.ediv_neg_of_neg_of_pos c hd
    omega
  · have : 0 ≤ n / d := Int.ediv_nonneg c (by omega)
    omega
theorem BQ.floor {q : Rat} {A B : Nat} (h : BQ q A B) : -(A : Int) ≤ q.floor ∧ q.floor ≤ A := by
  rw [Rat.floor_def]
  exact ediv_in (den_pos' q) h.nu
theorem BQ.ceil {q : Rat} {A B : Nat} (h : BQ q A B) : -(A : Int) ≤ q.ceil ∧ q.ceil ≤ A := by
  rw [Rat.ceil_eq_neg_floor_neg]
  have := h.neg.floor
  omega
theorem fit_int {k : Int} (h0 : -9223372036854775808 ≤ k) (h1 : k ≤ 9223372036854775807) : FitQ (k : Rat) := ⟨h0, h1, by rw [Rat.den_intCast]; decide⟩
theorem bq_int {k : Int} {A : Nat} (h : k.natAbs ≤ A) : BQ (k : Rat) A 1 := ⟨h, Nat.le_refl _⟩

theorem add_int (a : Rat) (k : Int) (w : World) (fa : FitQ a) (h0 : -9223372036854775808 ≤ k) (h1 : k ≤ 9223372036854775807) (fc : FitQ (a + (k : Rat))) :
    Calls Try.prog 32 #[.agg #[.int .i64 a.num, .int .i64 (a.den : Int)], .agg #[.int .i64 k, .int .i64 1]] w fun e w' => e = .returned (.tuple #[.agg #[.int .i64 (a + (k : Rat)).num, .int .i64 ((a + (k : Rat)).den : Int)], .int .i64 0]) ∧ Grown w w' :=
  add_fit a k w fa (fit_int h0 h1) fc
theorem cmp_int (k : Int) (b : Rat) (w : World) (h0 : -9223372036854775808 ≤ k) (h1 : k ≤ 9223372036854775807) (fb : FitQ b) :
    Calls Try.prog 38 #[.agg #[.int .i64 k, .int .i64 1], .agg #[.int .i64 b.num, .int .i64 (b.den : Int)]] w fun e w' => e = .returned (.int .i64 (cmpQ (k : Rat) b)) ∧ Grown w w' :=
  cmp_rat k b w (fit_int h0 h1) fb

theorem floor_at' (q : Rat) (v : Int) (w : World) (fq : FitQ q) (hv : q.floor = v) :
    Calls Try.prog 39 #[.agg #[.int .i64 q.num, .int .i64 (q.den : Int)]] w fun e w' => e = .returned (.int .i64 v) ∧ Grown w w' := by
  rw [← hv]; exact floor_yes q w fq
theorem ceil_at' (q : Rat) (v : Int) (w : World) (fq : FitQ q) (hv : q.ceil = v) :
    Calls Try.prog 41 #[.agg #[.int .i64 q.num, .int .i64 (q.den : Int)]] w fun e w' => e = .returned (.int .i64 v) ∧ Grown w w' := by
  rw [← hv]; exact ceil_yes q w fq
theorem cmp_at' (a b : Rat) (v : Int) (w : World) (fa : FitQ a) (fb : FitQ b) (hv : cmpQ a b = v) :
    Calls Try.prog 38 #[.agg #[.int .i64 a.num, .int .i64 (a.den : Int)], .agg #[.int .i64 b.num, .int .i64 (b.den : Int)]] w fun e w' => e = .returned (.int .i64 v) ∧ Grown w w' := by
  rw [← hv]; exact cmp_rat a b w fa fb
theorem cmp_int_at (k : Int) (b : Rat) (v : Int) (w : World) (h0 : -9223372036854775808 ≤ k) (h1 : k ≤ 9223372036854775807) (fb : FitQ b) (hv : cmpQ (k : Rat) b = v) :
    Calls Try.prog 38 #[.agg #[.int .i64 k, .int .i64 1], .agg #[.int .i64 b.num, .int .i64 (b.den : Int)]] w fun e w' => e = .returned (.int .i64 v) ∧ Grown w w' := by
  rw [← hv]; exact cmp_int k b w h0 h1 fb
/-- Of, where the fraction has a name. -/
theorem of_named (n d : Int) (q : Rat) (w : World) (h0 : -9223372036854775808 ≤ n) (h1 : n ≤ 9223372036854775807) (h2 : -9223372036854775808 ≤ d) (h3 : d ≤ 9223372036854775807) (hd : d ≠ 0) (hq : Rat.divInt n d = q) (hf : FitQ q) :
    Calls Try.prog 30 #[.int .i64 n, .int .i64 d] w fun e w' => e = .returned (.tuple #[.agg #[.int .i64 q.num, .int .i64 (q.den : Int)], .int .i64 0]) ∧ Grown w w' := by
  subst hq; exact of_ok n d w h0 h1 h2 h3 hd hf
theorem add_named (a b q : Rat) (w : World) (fa : FitQ a) (fb : FitQ b) (hq : a + b = q) (fc : FitQ q) :
    Calls Try.prog 32 #[.agg #[.int .i64 a.num, .int .i64 (a.den : Int)], .agg #[.int .i64 b.num, .int .i64 (b.den : Int)]] w fun e w' => e = .returned (.tuple #[.agg #[.int .i64 q.num, .int .i64 (q.den : Int)], .int .i64 0]) ∧ Grown w w' := by
  subst hq; exact add_fit a b w fa fb fc
theorem sub_named (a b q : Rat) (w : World) (fa : FitQ a) (fb : FitQ b) (hq : a - b = q) (fc : FitQ q) :
    Calls Try.prog 33 #[.agg #[.int .i64 a.num, .int .i64 (a.den : Int)], .agg #[.int .i64 b.num, .int .i64 (b.den : Int)]] w fun e w' => e = .returned (.tuple #[.agg #[.int .i64 q.num, .int .i64 (q.den : Int)], .int .i64 0]) ∧ Grown w w' := by
  subst hq; exact sub_fit a b w fa fb fc
theorem mul_named (a b q : Rat) (w : World) (fa : FitQ a) (fb : FitQ b) (hq : a * b = q) (fc : FitQ q) :
    Calls Try.prog 34 #[.agg #[.int .i64 a.num, .int .i64 (a.den : Int)], .agg #[.int .i64 b.num, .int .i64 (b.den : Int)]] w fun e w' => e = .returned (.tuple #[.agg #[.int .i64 q.num, .int .i64 (q.den : Int)], .int .i64 0]) ∧ Grown w w' := by
  subst hq; exact mul_fit a b w fa fb fc
theorem cmpQ_add (x z : Rat) : cmpQ (x + z) x = cmpQ z 0 := by
  have e : x = x + 0 := (Rat.add_zero x).symm
  have h := cmpQ_same (a := x + z) (b := x + 0) (c := z) (d := 0) Rat.add_lt_add_left Rat.add_lt_add_left
  rw [Rat.add_zero] at h
  exact h
theorem cmp_zero (a : Rat) (w : World) (fa : FitQ a) :
    Calls Try.prog 38 #[.agg #[.int .i64 a.num, .int .i64 (a.den : Int)], .agg #[.int .i64 0, .int .i64 1]] w fun e w' => e = .returned (.int .i64 (cmpQ a 0)) ∧ Grown w w' :=
  cmp_rat a 0 w fa ⟨by decide, by decide, by decide⟩
end Go.Proofs.Ytkmapegglgcfnaa
