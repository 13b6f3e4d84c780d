/- Worlds that keep all but some blocks; the contracts of whole and ratio as the ledger uses them. -/
import Derived.Test.YtbimaaknjedonaaA1
import Derived.Test.YtbimaaknjedonaaR6
import Derived.Below
import Derived.Carry
namespace Go.Proofs.Ytbimaaknjedonaa
open Go.RowKit Go.Lib
set_option linter.unusedVariables false

/-- All that was there is as it was, but the blocks of F. -/
structure Ke (F : Nat → Prop) (w w' : World) : Prop where
  os : w'.os = w.os
  output : w'.output = w.output
  size : w.heap.size ≤ w'.heap.size
  block : ∀ k, k < w.heap.size → ¬ F k → w'.heap[k]? = w.heap[k]?
/-- Nothing but new blocks. -/
abbrev Gr (w w' : World) : Prop := Ke (fun _ => False) w w'

theorem Ke.refl (F : Nat → Prop) (w : World) : Ke F w w := ⟨rfl, rfl, Nat.le_refl _, fun _ _ _ => rfl⟩
theorem Ke.trans {F : Nat → Prop} {a b c : World} (h : Ke F a b) (k : Ke F b c) : Ke F a c :=
  ⟨k.os.trans h.os, k.output.trans h.output, Nat.le_trans h.size k.size, fun j hj hn => (k.block j (Nat.lt_of_lt_of_le hj h.size) hn).trans (h.block j hj hn)⟩
theorem Ke.mono {F G : Nat → Prop} {a b : World} (h : Ke F a b) (i : ∀ k, k < a.heap.size → F k → G k) : Ke G a b := ⟨h.os, h.output, h.size, fun j hj hn => h.block j hj (fun q => hn (i j hj q))⟩
theorem Ke.of_gr {F : Nat → Prop} {a b : World} (h : Gr a b) : Ke F a b := h.mono (fun _ _ q => q.elim)
theorem Ke.gr {F : Nat → Prop} {a b c : World} (h : Ke F a b) (k : Gr b c) : Ke F a c := h.trans (Ke.of_gr k)
theorem Ke.drew {F : Nat → Prop} {a b : World} (h : Ke F a b) : Ke F a b.drew := ⟨h.os, h.output, h.size, h.block⟩
theorem Ke.drewN {F : Nat → Prop} {a b : World} (h : Ke F a b) (n : Nat) : Ke F a (b.drewN n) := ⟨h.os, h.output, h.size, h.block⟩
theorem Ke.alloc {F : Nat → Prop} {a b : World} (h : Ke F a b) (o : Obj) : Ke F a (b.alloc o) := h.trans ⟨rfl, rfl, by simp, fun k hk _ => Below.heap_alloc _ _ _ hk⟩
theorem Ke.set {F : Nat → Prop} {a b : World} (h : Ke F a b) {p : Addr} (hp : F p.block ∨ a.heap.size ≤ p.block) (u : Value) : Ke F a (b.setCell p u) :=
  ⟨h.os, h.output, by simpa [World.setCell] using h.size, fun k hk hn => (Below.heap_setCell _ _ _ _ (fun e => by
    rcases hp with q | q
    · rw [← e] at q; exact hn q
    · omega)).trans (h.block k hk hn)⟩
theorem Ke.grown {F : Nat → Prop} {a w w' : World} {row : Option Nat} (h : Ke F a w) (hg : w.grownBy w' row) (hr : ∀ k, row = some k → F k ∨ a.heap.size ≤ k) : Ke F a w' :=
  ⟨hg.os.trans h.os, hg.output.trans h.output, Nat.le_trans h.size hg.size, fun k hk hn => (hg.block k (Nat.lt_of_lt_of_le hk h.size) (fun e => by
    rcases hr k e.symm with q | q
    · exact hn q
    · omega)).trans (h.block k hk hn)⟩
theorem Ke.cell {F : Nat → Prop} {w w' : World} (h : Ke F w w') {p : Addr} (hp : p.block < w.heap.size) (hn : ¬ F p.block) : w'.cell? p = w.cell? p := World.cell?_of_block (h.block p.block hp hn)
theorem Ke.frozen {F : Nat → Prop} {w w' : World} (h : Ke F w w') {p : Addr} (hp : p.block < w.heap.size) (hn : ¬ F p.block) : w'.frozen? p = w.frozen? p := World.frozen?_of_block (h.block p.block hp hn)
theorem Ke.frame {F : Nat → Prop} {w w' : World} (h : Ke F w w') (hn : ∀ k, k < w.heap.size → ¬ F k) (may : MemPlace → Prop) : w.keptBut w' may := by
  refine ⟨h.os, h.output, fun i hi => ?_⟩
  rw [h.block i hi (hn i hi)]
  split <;> simp_all
theorem Ke.trod {F : Nat → Prop} {H : Type} {enc : TypeId × Value → H} {P : Program} {t : TypeId} {W W' : World} (hb : Ke F W W') (hn : ∀ k, k < W.heap.size → ¬ F k) (hl : laidOutB P = true) (hr : P.readableRec t = true) (hrow : t < P.types.size) {v : Value} {d : DataW H} {ps : List MemPlace}
    (h : DataW.Trod enc P W 0 (fun _ => true) true t v d ps) (hlt : ∀ x ∈ ps, x.block < W.heap.size) :
    DataW.Trod enc P W' 0 (fun b => decide (b < W.heap.size)) true t v d ps :=
  WideElems.Trod_stays hl hr hrow h (fun x hx => by
    have q := hlt x hx
    cases x with
    | cell b o => exact World.cell?_of_block (w := W) (hb.block b q (hn b q))
    | map b => exact hb.block b q (hn b q)) (fun x hx => by simpa using hlt x hx)

theorem cell_lt {w : World} {a : Addr} {v : Value} (h : w.cell? a = some v) : a.block < w.heap.size := World.block_lt_of_cell? w a h
/-- A cell behind a call that only lays new blocks. -/
theorem kcell {w w' : World} (h : Gr w w') {a : Addr} {v : Value} (c : w.cell? a = some v) : w'.cell? a = some v := (h.cell (cell_lt c) (fun q => q)).trans c

/-- What has grown keeps all blocks. -/
theorem Ke.of_grown {F : Nat → Prop} {w w' : World} (h : Grown w w') : Ke F w w' := by
  obtain ⟨⟨h1, h2, h3⟩, hf, hs⟩ := h
  refine ⟨h1, h2, hs, fun k hk _ => ?_⟩
  have q := h3 k hk
  generalize w.heap[k]? = x at q
  generalize w'.heap[k]? = y at q
  split at q
  · obtain ⟨e1, e2, e3, e4⟩ := q
    subst e1 e2
    congr 2
    exact Array.ext_getElem? (fun j => e4 j (fun f => f))
  · rcases q with q | ⟨rfl, rfl⟩
    · exact q.elim
    · rfl
  · exact q
theorem calls_gr {f : FuncId} {args : Array Value} {w : World} {v : Value} (h : Calls Try.prog f args w fun e w' => e = .returned v ∧ Grown w w') : Calls Try.prog f args w fun e w' => e = .returned v ∧ Gr w w' :=
  h.mono fun _ _ ⟨a, b⟩ => ⟨a, Ke.of_grown b⟩

/-! ### the parts of a total, named -/
/-- What all weights are together. -/
structure Tot (L : List Wt) (N D M : Int) : Prop where
  n : (sumL L).num = N
  d : ((sumL L).den : Int) = D
  m : ((lcmL L : Nat) : Int) = M
theorem tot_nil : Tot [] 0 1 1 := ⟨by decide, by decide, by decide⟩
theorem Tot.of (L : List Wt) : ∃ N D M, Tot L N D M := ⟨_, _, _, rfl, rfl, rfl⟩
/-- Bounds of a total. -/
structure Tb (N D M : Int) : Prop where
  n0 : 0 ≤ N
  n1 : N ≤ 1090519040
  d0 : 1 ≤ D
  d1 : D ≤ 16777216
  m0 : 1 ≤ M
  m1 : M ≤ 16777216
theorem fit_small {q : Rat} (h0 : 0 ≤ q.num) (h1 : q.num ≤ 1090519040) (h2 : (q.den : Int) ≤ 16777216) : FitQ q := ⟨by omega, by omega, by omega⟩
theorem Tot.bd {k : Int} {L : List Wt} {N D M : Int} (t : Tot L N D M) (h : Okay k L) : Tb N D M := by
  have := sum_bd h.may (m := 16777216) (c := k) (by have := h.lcm; omega) h.sum (by have := h.k0; omega)
  have P := lcmL_pos h.may
  have := h.k1
  have l := h.lcm
  rw [t.n, t.d] at *
  have m := t.m
  exact ⟨by omega, by omega, by omega, by omega, by omega, by omega⟩
/-- One more than all that is there: still no great number. -/
theorem Tot.bd' {k : Int} {L : List Wt} {i e p N D M : Int} (h : Okay k L) (hm : 1 ≤ e ∧ e ≤ p ∧ p ≤ 1048575) (hl : M ≤ 16777216) (t : Tot (L ++ [⟨i, e, p⟩]) N D M) : Tb N D M := by
  have hM : ∀ x ∈ L ++ [⟨i, e, p⟩], x.May := fun x hx => by
    rcases List.mem_append.1 hx with hx | hx
    · exact h.may x hx
    · simp at hx; subst hx; exact ⟨hm.1, hm.2.1, hm.2.2⟩
  have P := lcmL_pos hM
  have hs : (sumL (L ++ [⟨i, e, p⟩])).num ≤ 65 * (sumL (L ++ [⟨i, e, p⟩])).den := by
    have d1 : ∀ x ∈ L, x.p ≠ 0 ∧ x.p ∣ ((lcmL (L ++ [⟨i, e, p⟩]) : Nat) : Int) := fun x hx => dvdZ hM x (by simp [hx])
    have l1 := low_of (n := numL (lcmL (L ++ [⟨i, e, p⟩])) L) (m := lcmL (L ++ [⟨i, e, p⟩])) (by omega) (sumL_num (by omega) d1)
    have l2 := low_sum hM
    refine (l2.le_iff 65).2 ?_
    have a := (l1.le_iff k).1 h.sum
    have c : k * ((lcmL (L ++ [⟨i, e, p⟩]) : Nat) : Int) ≤ 64 * ((lcmL (L ++ [⟨i, e, p⟩]) : Nat) : Int) := Int.mul_le_mul_of_nonneg_right h.k1 (by omega)
    have key : ∀ (m : Int) (M : List Wt) (x : Wt), numL m (M ++ [x]) = numL m M + x.e * (m / x.p) := by
      intro m M x
      induction M with
      | nil => show x.e * (m / x.p) + 0 = 0 + x.e * (m / x.p); omega
      | cons y l ih => show y.e * (m / y.p) + numL m (l ++ [x]) = y.e * (m / y.p) + numL m l + _; rw [ih]; omega
    rw [key]
    obtain ⟨_, z, hz⟩ := dvdZ hM ⟨i, e, p⟩ (by simp)
    simp only at hz ⊢
    have e2 : ((lcmL (L ++ [⟨i, e, p⟩]) : Nat) : Int) / p = z := by rw [hz]; exact Int.mul_ediv_cancel_left _ (by omega)
    have z0 : 0 ≤ z := by
      rcases Int.lt_or_le z 0 with q | q
      · exact absurd (Int.mul_neg_of_pos_of_neg (show 0 < p by omega) q) (by omega)
      · exact q
    have : e * z ≤ p * z := Int.mul_le_mul_of_nonneg_right hm.2.1 z0
    rw [e2]
    omega
  have b := sum_bd hM (m := 16777216) (c := 65) (by have := t.m; omega) hs (by omega)
  have m := t.m
  rw [t.n, t.d] at b
  exact ⟨by omega, by omega, by omega, by omega, by omega, by omega⟩

/-! ### the contracts -/
theorem weight_of (e p : Int) (hm : 1 ≤ e ∧ e ≤ p ∧ p ≤ 1048575) : FitQ (Rat.divInt e p) ∧ (wq ⟨0, e, p⟩) = Rat.divInt e p := by
  have h := wq_le (x := ⟨0, e, p⟩) ⟨hm.1, hm.2.1, hm.2.2⟩
  exact ⟨⟨by show _ ≤ (wq ⟨0, e, p⟩).num; omega, by show (wq ⟨0, e, p⟩).num ≤ _; omega, by show ((wq ⟨0, e, p⟩).den : Int) ≤ _; omega⟩, rfl⟩
/-- One weight, in memory. -/
structure Wn (e p a b : Int) : Prop where
  a : (Rat.divInt e p).num = a
  b : ((Rat.divInt e p).den : Int) = b
theorem ofG (e p a b : Int) (w : World) (hm : 1 ≤ e ∧ e ≤ p ∧ p ≤ 1048575) (h : Wn e p a b) : Calls Try.prog 33 #[.int .i64 e, .int .i64 p] w fun e w' => e = .returned (.tuple #[.agg #[.int .i64 a, .int .i64 b], .int .i64 0]) ∧ Gr w w' := by
  rw [← h.a, ← h.b]
  exact calls_gr (of_ok e p w (by omega) (by omega) (by omega) (by omega) (by omega) (weight_of e p hm).1)
theorem addG {L : List Wt} {i e p N D M a b N' D' M' : Int} (w : World) (t : Tot L N D M) (tb : Tb N D M) (h : Wn e p a b) (hm : 1 ≤ e ∧ e ≤ p ∧ p ≤ 1048575) (t' : Tot (L ++ [⟨i, e, p⟩]) N' D' M') (tb' : Tb N' D' M') :
    Calls Try.prog 29 #[.agg #[.int .i64 N, .int .i64 D], .agg #[.int .i64 a, .int .i64 b]] w fun e w' => e = .returned (.tuple #[.agg #[.int .i64 N', .int .i64 D'], .int .i64 0]) ∧ Gr w w' := by
  have f1 : FitQ (sumL L) := fit_small (by rw [t.n]; exact tb.n0) (by rw [t.n]; exact tb.n1) (by rw [t.d]; exact tb.d1)
  have f2 : FitQ (sumL L + Rat.divInt e p) := by
    have q : sumL L + Rat.divInt e p = sumL (L ++ [⟨i, e, p⟩]) := (sumL_app L ⟨i, e, p⟩).symm
    rw [q]
    exact fit_small (by rw [t'.n]; exact tb'.n0) (by rw [t'.n]; exact tb'.n1) (by rw [t'.d]; exact tb'.d1)
  have c := add_rat (sumL L) (Rat.divInt e p) w f1 (weight_of e p hm).1
  obtain ⟨q1, q2, q3⟩ := q_fit f2
  have q : sumL L + Rat.divInt e p = sumL (L ++ [⟨i, e, p⟩]) := (sumL_app L ⟨i, e, p⟩).symm
  rw [q1, q2, q3, q, t.n, t.d, h.a, h.b, t'.n, t'.d] at c
  exact calls_gr c
theorem subG {L L' : List Wt} {e p N D M a b N' D' M' : Int} (w : World) (t : Tot L N D M) (tb : Tb N D M) (h : Wn e p a b) (hm : 1 ≤ e ∧ e ≤ p ∧ p ≤ 1048575) (t' : Tot L' N' D' M') (tb' : Tb N' D' M') (hs : sumL L = sumL L' + Rat.divInt e p) :
    Calls Try.prog 23 #[.agg #[.int .i64 N, .int .i64 D], .agg #[.int .i64 a, .int .i64 b]] w fun e w' => e = .returned (.tuple #[.agg #[.int .i64 N', .int .i64 D'], .int .i64 0]) ∧ Gr w w' := by
  have f1 : FitQ (sumL L) := fit_small (by rw [t.n]; exact tb.n0) (by rw [t.n]; exact tb.n1) (by rw [t.d]; exact tb.d1)
  have q : sumL L - Rat.divInt e p = sumL L' := by rw [hs, Rat.add_sub_cancel]
  have f2 : FitQ (sumL L - Rat.divInt e p) := by
    rw [q]
    exact fit_small (by rw [t'.n]; exact tb'.n0) (by rw [t'.n]; exact tb'.n1) (by rw [t'.d]; exact tb'.d1)
  have c := sub_rat (sumL L) (Rat.divInt e p) w f1 (weight_of e p hm).1
  obtain ⟨q1, q2, q3⟩ := q_fit f2
  rw [q1, q2, q3, q, t.n, t.d, h.a, h.b, t'.n, t'.d] at c
  exact calls_gr c
theorem cmpG {L : List Wt} {N D M k : Int} (w : World) (t : Tot L N D M) (tb : Tb N D M) (k0 : 1 ≤ k) (k1 : k ≤ 64) :
    Calls Try.prog 30 #[.agg #[.int .i64 N, .int .i64 D], .agg #[.int .i64 k, .int .i64 1]] w fun e w' => e = .returned (.int .i64 (cmpI N (k * D))) ∧ Gr w w' := by
  have a0 := tb.n0
  have a1 := tb.n1
  have a2 := tb.d0
  have a3 := tb.d1
  have g := rat_gcd (sumL L)
  rw [t.n, t.d] at g
  have c := cmp_yes N D k 1 w (by omega) (by omega) (by omega) (by omega) (by omega) (by omega) ⟨by omega, g⟩ ⟨by omega, by simp⟩
  rw [Int.mul_one] at c
  exact calls_gr c
theorem lcm_val {a b : Int} (ha : 1 ≤ a) (h1 : a ≤ 9223372036854775807) (hb : 1 ≤ b) : a / gcdV a b * b = ((Nat.lcm a.natAbs b.natAbs : Nat) : Int) := by
  obtain ⟨e, _, _⟩ := gcd_pos_bd (b := b) ha h1
  rw [e]
  obtain ⟨x, rfl⟩ := Int.eq_ofNat_of_zero_le (show 0 ≤ a by omega)
  obtain ⟨y, rfl⟩ := Int.eq_ofNat_of_zero_le (show 0 ≤ b by omega)
  show ((x : Int) / ((Nat.gcd x y : Nat) : Int)) * (y : Int) = ((Nat.lcm x y : Nat) : Int)
  have d : Nat.gcd x y ∣ x := Nat.gcd_dvd_left _ _
  rw [← Int.natCast_ediv, ← Int.natCast_mul]
  congr 1
  unfold Nat.lcm
  rw [Nat.div_mul_right_comm d]
theorem lcmG (a b v : Int) (w : World) (h0 : 1 ≤ a) (h1 : a ≤ 16777216) (h2 : 1 ≤ b) (h3 : b ≤ 1048575) (hv : ((Nat.lcm a.natAbs b.natAbs : Nat) : Int) = v) :
    Calls Try.prog 28 #[.int .i64 a, .int .i64 b] w fun e w' => e = .returned (.tuple #[.int .i64 v, .int .i64 0]) ∧ Gr w w' := by
  have e := lcm_val h0 (by omega) h2
  have hb : (Nat.lcm a.natAbs b.natAbs) ≤ 16777216 * 1048575 := by
    refine Nat.le_trans (Nat.le_of_dvd (Nat.mul_pos (by omega) (by omega)) (Nat.lcm_dvd (Nat.dvd_mul_right _ _) (Nat.dvd_mul_left _ _))) (Nat.mul_le_mul (by omega) (by omega))
  exact calls_gr (lcm_at a b v w h0 (by omega) h2 (by omega) (e.trans hv) ⟨by omega, by omega⟩)
end Go.Proofs.Ytbimaaknjedonaa
