/- Plain facts on weights: their multiple, their sum, how many have a period, one taken out; no Go in sight. -/
import Derived.Test.YtbimaaknjedonaaRatA
namespace Go.Proofs.Ytbimaaknjedonaa
set_option linter.unusedVariables false

/-- A task: its id, e in p. -/
structure Wt where
  id : Int
  e : Int
  p : Int
/-- It may be. -/
structure Wt.May (x : Wt) : Prop where
  e0 : 1 ≤ x.e
  e1 : x.e ≤ x.p
  p1 : x.p ≤ 1048575
theorem Wt.May.p0 {x : Wt} (h : x.May) : 1 ≤ x.p := by have := h.e0; have := h.e1; omega

/-- The least common multiple of all periods. -/
def lcmL : List Wt → Nat
  | [] => 1
  | x :: l => Nat.lcm x.p.natAbs (lcmL l)
/-- One weight. -/
def wq (x : Wt) : Rat := Rat.divInt x.e x.p
/-- The sum of all weights. -/
def sumL : List Wt → Rat
  | [] => 0
  | x :: l => wq x + sumL l
/-- How many parts of m they are. -/
def numL (m : Int) : List Wt → Int
  | [] => 0
  | x :: l => x.e * (m / x.p) + numL m l
/-- How many have this period. -/
def cntL (q : Int) : List Wt → Nat
  | [] => 0
  | x :: l => (if x.p = q then 1 else 0) + cntL q l
/-- Without the one of this id. -/
def remL (i : Int) : List Wt → List Wt
  | [] => []
  | x :: l => if x.id = i then remL i l else x :: remL i l
/-- No id is there twice. -/
def Ids (L : List Wt) : Prop := L.Pairwise (fun x y => x.id ≠ y.id)

/-! ### the multiple -/
theorem lcmL_dvd : ∀ {L : List Wt} {x : Wt}, x ∈ L → x.p.natAbs ∣ lcmL L
  | y :: l, x, h => by
    rcases List.mem_cons.1 h with rfl | h
    · exact Nat.dvd_lcm_left _ _
    · exact Nat.dvd_trans (lcmL_dvd h) (Nat.dvd_lcm_right _ _)
theorem lcmL_min : ∀ {L : List Wt} {m : Nat}, (∀ x ∈ L, x.p.natAbs ∣ m) → lcmL L ∣ m
  | [], m, _ => Nat.one_dvd m
  | y :: l, m, h => Nat.lcm_dvd (h y (by simp)) (lcmL_min (fun x hx => h x (by simp [hx])))
theorem lcmL_pos : ∀ {L : List Wt}, (∀ x ∈ L, x.May) → 0 < lcmL L
  | [], _ => by simp [lcmL]
  | y :: l, h => Nat.lcm_pos (by have := (h y (by simp)).p0; omega) (lcmL_pos (fun x hx => h x (by simp [hx])))
theorem lcmL_app (L : List Wt) (x : Wt) : lcmL (L ++ [x]) = Nat.lcm (lcmL L) x.p.natAbs := by
  refine Nat.dvd_antisymm (lcmL_min fun y hy => ?_) (Nat.lcm_dvd (lcmL_min fun y hy => lcmL_dvd (by simp [hy])) (lcmL_dvd (by simp)))
  rcases List.mem_append.1 hy with h | h
  · exact Nat.dvd_trans (lcmL_dvd h) (Nat.dvd_lcm_left _ _)
  · simp at h; subst h; exact Nat.dvd_lcm_right _ _
theorem lcmL_le {L M : List Wt} (h : ∀ x ∈ L, ∃ y ∈ M, y.p = x.p) : lcmL L ∣ lcmL M := lcmL_min fun x hx => by
  obtain ⟨y, hy, e⟩ := h x hx
  rw [← e]
  exact lcmL_dvd hy
theorem lcmL_congr {L M : List Wt} (h : ∀ x ∈ L, ∃ y ∈ M, y.p = x.p) (g : ∀ x ∈ M, ∃ y ∈ L, y.p = x.p) : lcmL L = lcmL M := Nat.dvd_antisymm (lcmL_le h) (lcmL_le g)

/-! ### the sum -/
theorem sumL_app : ∀ (L : List Wt) (x : Wt), sumL (L ++ [x]) = sumL L + wq x
  | [], x => by simp [sumL, Rat.add_zero, Rat.zero_add]
  | y :: l, x => by
    show wq y + sumL (l ++ [x]) = wq y + sumL l + wq x
    rw [sumL_app l x, Rat.add_assoc]
theorem sumL_perm {L M : List Wt} (h : L.Perm M) : sumL L = sumL M := by
  induction h with
  | nil => rfl
  | cons x _ ih => show wq x + _ = wq x + _; rw [ih]
  | swap x y l => show wq y + (wq x + _) = wq x + (wq y + _); rw [← Rat.add_assoc, ← Rat.add_assoc, Rat.add_comm (wq y)]
  | trans _ _ a b => exact a.trans b
theorem lcmL_perm {L M : List Wt} (h : L.Perm M) : lcmL L = lcmL M := lcmL_congr (fun x hx => ⟨x, h.mem_iff.1 hx, rfl⟩) (fun x hx => ⟨x, h.mem_iff.2 hx, rfl⟩)
theorem divInt_same {a b m : Int} (hm : m ≠ 0) : Rat.divInt a m + Rat.divInt b m = Rat.divInt (a + b) m := by
  rw [Rat.divInt_add_divInt _ _ hm hm, Rat.divInt_eq_divInt_iff (Int.mul_ne_zero hm hm) hm]
  grind
theorem sumL_num : ∀ {L : List Wt} {m : Int}, 0 < m → (∀ x ∈ L, x.p ≠ 0 ∧ x.p ∣ m) → sumL L = Rat.divInt (numL m L) m
  | [], m, hm, _ => by
    show (0 : Rat) = Rat.divInt 0 m
    exact (Rat.zero_divInt m).symm
  | y :: l, m, hm, h => by
    obtain ⟨h0, c, hc⟩ := h y (by simp)
    have e : m / y.p = c := by rw [hc]; exact Int.mul_ediv_cancel_left _ h0
    show wq y + sumL l = Rat.divInt (y.e * (m / y.p) + numL m l) m
    rw [sumL_num hm (fun x hx => h x (by simp [hx])), ← divInt_same (by omega), e]
    congr 1
    unfold wq
    rw [Rat.divInt_eq_divInt_iff h0 (by omega), hc]
    grind
theorem numL_ge : ∀ {L : List Wt} {m : Int}, 0 < m → (∀ x ∈ L, x.May ∧ x.p ∣ m) → (L.length : Int) ≤ numL m L
  | [], m, hm, _ => by simp [numL]
  | y :: l, m, hm, h => by
    obtain ⟨h0, c, hc⟩ := h y (by simp)
    have hp := h0.p0
    have e : m / y.p = c := by rw [hc]; exact Int.mul_ediv_cancel_left _ (by omega)
    have hc0 : 1 ≤ c := by
      rcases Int.lt_or_le 0 c with q | q
      · omega
      · exact absurd (Int.mul_nonpos_of_nonneg_of_nonpos (show 0 ≤ y.p by omega) q) (by omega)
    have ih := numL_ge (L := l) hm (fun x hx => h x (by simp [hx]))
    have : 1 * 1 ≤ y.e * c := Int.mul_le_mul h0.e0 hc0 (by omega) (by have := h0.e0; omega)
    show ((l.length + 1 : Nat) : Int) ≤ y.e * (m / y.p) + numL m l
    rw [e]
    omega

/-- What a fraction of n in m is in lowest terms. -/
structure Low (n m : Int) (q : Rat) : Prop where
  g : ∃ g : Int, 0 < g ∧ n = q.num * g ∧ m = q.den * g
theorem low_of {n m : Int} {q : Rat} (hm : 0 < m) (h : q = Rat.divInt n m) : Low n m q := by
  obtain ⟨x, y, g, hg, hg0, hx, hy, c⟩ := gcd_parts n m (by omega)
  have hy0 : 0 < y := by
    rcases Int.lt_or_le 0 y with q | q
    · exact q
    · exact absurd (Int.mul_nonpos_of_nonneg_of_nonpos (show 0 ≤ g by omega) q) (by omega)
  obtain ⟨e1, e2⟩ := lowest (N := x) (D := y) h (by omega) hy0 c (by rw [hx, hy]; grind)
  exact ⟨g, hg0, by rw [hx, e1, Int.mul_comm], by rw [hy, e2, Int.mul_comm]⟩
theorem Low.den_le {n m : Int} {q : Rat} (h : Low n m q) : (q.den : Int) ≤ m := by
  obtain ⟨g, hg, _, e⟩ := h
  have := q.den_pos
  have : (q.den : Int) * 1 ≤ q.den * g := Int.mul_le_mul_of_nonneg_left (by omega) (by omega)
  omega
theorem Low.num_le {n m : Int} {q : Rat} (h : Low n m q) (hn : 0 ≤ n) : 0 ≤ q.num ∧ q.num ≤ n := by
  obtain ⟨g, hg, e, _⟩ := h
  have h0 : 0 ≤ q.num := by
    rcases Int.lt_or_le q.num 0 with c | c
    · exact absurd (Int.mul_neg_of_neg_of_pos c hg) (by omega)
    · exact c
  have : q.num * 1 ≤ q.num * g := Int.mul_le_mul_of_nonneg_left (by omega) h0
  omega
theorem Low.le_iff {n m : Int} {q : Rat} (h : Low n m q) (k : Int) : q.num ≤ k * q.den ↔ n ≤ k * m := by
  obtain ⟨g, hg, e, e'⟩ := h
  rw [e, e', ← Int.mul_assoc]
  exact ⟨fun q => Int.mul_le_mul_of_nonneg_right q (by omega), fun q => Int.le_of_mul_le_mul_right q hg⟩

/-! ### one taken out -/
theorem mem_remL {i : Int} : ∀ {L : List Wt} {x : Wt}, x ∈ remL i L ↔ x ∈ L ∧ x.id ≠ i
  | [], x => by simp [remL]
  | y :: l, x => by
    unfold remL
    by_cases c : y.id = i
    · rw [if_pos c, mem_remL (L := l)]
      constructor
      · rintro ⟨a, b⟩; exact ⟨by simp [a], b⟩
      · rintro ⟨a, b⟩
        rcases List.mem_cons.1 a with rfl | a
        · exact absurd c b
        · exact ⟨a, b⟩
    · rw [if_neg c]
      simp only [List.mem_cons, mem_remL (L := l)]
      constructor
      · rintro (rfl | ⟨a, b⟩)
        · exact ⟨.inl rfl, c⟩
        · exact ⟨.inr a, b⟩
      · rintro ⟨rfl | a, b⟩
        · exact .inl rfl
        · exact .inr ⟨a, b⟩
theorem remL_out {i : Int} : ∀ {L : List Wt}, (∀ x ∈ L, x.id ≠ i) → remL i L = L
  | [], _ => rfl
  | y :: l, h => by
    unfold remL
    rw [if_neg (h y (by simp)), remL_out (fun x hx => h x (by simp [hx]))]
theorem Ids.rem {i : Int} : ∀ {L : List Wt}, Ids L → Ids (remL i L)
  | [], _ => List.Pairwise.nil
  | y :: l, h => by
    unfold remL
    have h' := List.pairwise_cons.1 h
    split
    · exact Ids.rem (L := l) h'.2
    · exact List.pairwise_cons.2 ⟨fun z hz => h'.1 z (mem_remL.1 hz).1, Ids.rem (L := l) h'.2⟩
/-- All that is told of one taken out. -/
theorem rem_step : ∀ {L : List Wt} {x : Wt}, Ids L → x ∈ L → sumL L = sumL (remL x.id L) + wq x ∧ (remL x.id L).length + 1 = L.length ∧ ∀ q, cntL q L = cntL q (remL x.id L) + if x.p = q then 1 else 0
  | y :: l, x, h, hx => by
    have h' := List.pairwise_cons.1 h
    rcases List.mem_cons.1 hx with rfl | hx
    · have e : remL x.id (x :: l) = l := by
        show (if x.id = x.id then remL x.id l else x :: remL x.id l) = l
        rw [if_pos rfl]
        exact remL_out (fun z hz => (h'.1 z hz).symm)
      rw [e]
      exact ⟨Rat.add_comm _ _, rfl, fun q => Nat.add_comm _ _⟩
    · obtain ⟨a, b, c⟩ := rem_step (L := l) h'.2 hx
      have e : remL x.id (y :: l) = y :: remL x.id l := by
        show (if y.id = x.id then remL x.id l else y :: remL x.id l) = _
        rw [if_neg (h'.1 x hx)]
      rw [e]
      refine ⟨?_, by simp [← b], fun q => ?_⟩
      · show wq y + sumL l = wq y + sumL (remL x.id l) + wq x
        rw [a, Rat.add_assoc]
      · show (if y.p = q then 1 else 0) + cntL q l = (if y.p = q then 1 else 0) + cntL q (remL x.id l) + _
        rw [c q]
        omega
theorem cntL_app : ∀ (L : List Wt) (x : Wt) (q : Int), cntL q (L ++ [x]) = cntL q L + if x.p = q then 1 else 0
  | [], x, q => by simp [cntL]
  | y :: l, x, q => by
    show _ + cntL q (l ++ [x]) = _ + cntL q l + _
    rw [cntL_app l x q]
    omega
theorem cntL_pos {q : Int} : ∀ {L : List Wt}, 0 < cntL q L ↔ ∃ x ∈ L, x.p = q
  | [] => by simp [cntL]
  | y :: l => by
    unfold cntL
    by_cases c : y.p = q
    · simp [c]
      omega
    · simp [c, cntL_pos (L := l)]
theorem cntL_le (q : Int) : ∀ (L : List Wt), cntL q L ≤ L.length
  | [] => by simp [cntL]
  | y :: l => by have := cntL_le q l; unfold cntL; split <;> simp <;> omega
theorem Ids.app {L : List Wt} {x : Wt} (h : Ids L) (hx : ∀ y ∈ L, y.id ≠ x.id) : Ids (L ++ [x]) :=
  List.pairwise_append.2 ⟨h, List.pairwise_singleton _ _, fun y hy z hz => by simp at hz; subst hz; exact hx y hy⟩

/-! ### what a ledger of k cores holds -/
/-- Weights that are there together on k cores. -/
structure Okay (k : Int) (L : List Wt) : Prop where
  k0 : 1 ≤ k
  k1 : k ≤ 64
  ids : Ids L
  may : ∀ x ∈ L, x.May
  lcm : lcmL L ≤ 16777216
  sum : (sumL L).num ≤ k * (sumL L).den
theorem dvdZ {L : List Wt} (h : ∀ x ∈ L, x.May) : ∀ x ∈ L, x.p ≠ 0 ∧ x.p ∣ ((lcmL L : Nat) : Int) := fun x hx => by
  have := (h x hx).p0
  refine ⟨by omega, ?_⟩
  have d := Int.natCast_dvd_natCast.2 (lcmL_dvd hx)
  have e : ((x.p.natAbs : Nat) : Int) = x.p := by omega
  rwa [e] at d
theorem low_sum {L : List Wt} (h : ∀ x ∈ L, x.May) : Low (numL (lcmL L) L) (lcmL L) (sumL L) := low_of (by have := lcmL_pos h; omega) (sumL_num (by have := lcmL_pos h; omega) (dvdZ h))
/-- Bounds of a sum whose multiple may be. -/
theorem sum_bd {L : List Wt} {m c : Int} (h : ∀ x ∈ L, x.May) (hm : ((lcmL L : Nat) : Int) ≤ m) (hs : (sumL L).num ≤ c * (sumL L).den) (hc : 0 ≤ c) :
    0 < ((sumL L).den : Int) ∧ ((sumL L).den : Int) ≤ m ∧ 0 ≤ (sumL L).num ∧ (sumL L).num ≤ c * m ∧ (L.length : Int) ≤ c * m := by
  have l := low_sum h
  have p := lcmL_pos h
  have n0 := numL_ge (L := L) (m := ((lcmL L : Nat) : Int)) (by omega) (fun x hx => ⟨h x hx, (dvdZ h x hx).2⟩)
  have a := l.den_le
  have b := l.num_le (by omega)
  have d := (l.le_iff c).1 hs
  have e : c * ((lcmL L : Nat) : Int) ≤ c * m := Int.mul_le_mul_of_nonneg_left hm hc
  have := (sumL L).den_pos
  refine ⟨by omega, by omega, b.1, by omega, by omega⟩
theorem Okay.nil {k : Int} (h0 : 1 ≤ k) (h1 : k ≤ 64) : Okay k [] := ⟨h0, h1, List.Pairwise.nil, fun x hx => by simp at hx, by simp [lcmL], by show (0 : Rat).num ≤ k * ((0 : Rat).den : Int); simp; omega⟩
theorem wq_le {x : Wt} (h : x.May) : (wq x).num ≤ (wq x).den ∧ 0 ≤ (wq x).num ∧ ((wq x).den : Int) ≤ 1048575 := by
  have p0 := h.p0
  have l : Low x.e x.p (wq x) := low_of (by omega) rfl
  have a := l.den_le
  have b := l.num_le (by have := h.e0; omega)
  have c := (l.le_iff 1).2 (by have := h.e1; omega)
  have := h.p1
  exact ⟨by omega, b.1, by omega⟩
theorem Okay.rem {k : Int} {L : List Wt} {i : Int} (h : Okay k L) : Okay k (remL i L) := by
  have hm : ∀ x ∈ remL i L, x.May := fun x hx => h.may x (mem_remL.1 hx).1
  have hd : lcmL (remL i L) ∣ lcmL L := lcmL_le (fun x hx => ⟨x, (mem_remL.1 hx).1, rfl⟩)
  refine ⟨h.k0, h.k1, h.ids.rem, hm, Nat.le_trans (Nat.le_of_dvd (lcmL_pos h.may) hd) h.lcm, ?_⟩
  by_cases c : ∃ x ∈ L, x.id = i
  · obtain ⟨x, hx, rfl⟩ := c
    have hs := (rem_step h.ids hx).1
    have P := lcmL_pos h.may
    have P' := lcmL_pos hm
    -- both in parts of the whole's multiple
    have d1 := dvdZ h.may
    have d2 : ∀ y ∈ remL x.id L, y.p ≠ 0 ∧ y.p ∣ ((lcmL L : Nat) : Int) := fun y hy => d1 y (mem_remL.1 hy).1
    have l1 := low_of (n := numL (lcmL L) L) (m := lcmL L) (by omega) (sumL_num (by omega) d1)
    have l2 := low_of (n := numL (lcmL L) (remL x.id L)) (m := lcmL L) (by omega) (sumL_num (by omega) d2)
    refine (l2.le_iff k).2 (Int.le_trans ?_ ((l1.le_iff k).1 h.sum))
    clear l1 l2 hs
    have key : ∀ (M : List Wt), (∀ y ∈ M, y.May ∧ y.p ∣ ((lcmL L : Nat) : Int)) → numL (lcmL L) (remL x.id M) ≤ numL (lcmL L) M := by
      intro M
      induction M with
      | nil => intro _; exact Int.le_refl _
      | cons y l ih =>
        intro hM
        have ih' := ih (fun z hz => hM z (by simp [hz]))
        have hy := hM y (by simp)
        have q1 : 0 ≤ ((lcmL L : Nat) : Int) / y.p := Int.ediv_nonneg (by omega) (by have := hy.1.p0; omega)
        have q2 : 0 ≤ y.e * (((lcmL L : Nat) : Int) / y.p) := Int.mul_nonneg (by have := hy.1.e0; omega) q1
        unfold remL
        split
        · show _ ≤ y.e * (_ / y.p) + numL _ l
          omega
        · show y.e * (_ / y.p) + numL _ (remL x.id l) ≤ y.e * (_ / y.p) + numL _ l
          omega
    exact key L (fun y hy => ⟨h.may y hy, (d1 y hy).2⟩)
  · have e : remL i L = L := remL_out (fun x hx q => c ⟨x, hx, q⟩)
    rw [e]
    exact h.sum

/-- What is answered to one more: as the document has it. -/
def canV (k : Int) (L : List Wt) (e p : Int) : Int :=
  if 1 ≤ e ∧ e ≤ p ∧ p ≤ 1048575 then
    if 16777216 < lcmL (L ++ [⟨0, e, p⟩]) then 7
    else if k * ((sumL (L ++ [⟨0, e, p⟩])).den : Int) < (sumL (L ++ [⟨0, e, p⟩])).num then 8 else 0
  else 2
theorem lcmL_id (L : List Wt) (i j e p : Int) : lcmL (L ++ [⟨i, e, p⟩]) = lcmL (L ++ [⟨j, e, p⟩]) := by rw [lcmL_app, lcmL_app]
theorem sumL_id (L : List Wt) (i j e p : Int) : sumL (L ++ [⟨i, e, p⟩]) = sumL (L ++ [⟨j, e, p⟩]) := by rw [sumL_app, sumL_app]; rfl
theorem canV_cases (k : Int) (L : List Wt) (e p : Int) : (¬ (1 ≤ e ∧ e ≤ p ∧ p ≤ 1048575) ∧ canV k L e p = 2) ∨ (1 ≤ e ∧ e ≤ p ∧ p ≤ 1048575) ∧
    ((16777216 < lcmL (L ++ [⟨0, e, p⟩]) ∧ canV k L e p = 7) ∨ lcmL (L ++ [⟨0, e, p⟩]) ≤ 16777216 ∧ ((k * ((sumL (L ++ [⟨0, e, p⟩])).den : Int) < (sumL (L ++ [⟨0, e, p⟩])).num ∧ canV k L e p = 8) ∨ ((sumL (L ++ [⟨0, e, p⟩])).num ≤ k * ((sumL (L ++ [⟨0, e, p⟩])).den : Int) ∧ canV k L e p = 0))) := by
  unfold canV
  by_cases a : 1 ≤ e ∧ e ≤ p ∧ p ≤ 1048575
  · rw [if_pos a]
    refine .inr ⟨a, ?_⟩
    by_cases b : 16777216 < lcmL (L ++ [⟨0, e, p⟩])
    · rw [if_pos b]; exact .inl ⟨b, rfl⟩
    · rw [if_neg b]
      refine .inr ⟨by omega, ?_⟩
      by_cases c : k * ((sumL (L ++ [⟨0, e, p⟩])).den : Int) < (sumL (L ++ [⟨0, e, p⟩])).num
      · rw [if_pos c]; exact .inl ⟨c, rfl⟩
      · rw [if_neg c]; exact .inr ⟨by omega, rfl⟩
  · rw [if_neg a]
    exact .inl ⟨a, rfl⟩
theorem Okay.add {k : Int} {L : List Wt} {i e p : Int} (h : Okay k L) (hc : canV k L e p = 0) (hi : ∀ x ∈ L, x.id ≠ i) : Okay k (L ++ [⟨i, e, p⟩]) := by
  rcases canV_cases k L e p with ⟨_, q⟩ | ⟨hm, ⟨_, q⟩ | ⟨hl, ⟨_, q⟩ | ⟨hs, _⟩⟩⟩
  · omega
  · omega
  · omega
  · refine ⟨h.k0, h.k1, h.ids.app hi, fun x hx => ?_, by rw [lcmL_id L i 0]; exact hl, by rw [sumL_id L i 0]; exact hs⟩
    rcases List.mem_append.1 hx with hx | hx
    · exact h.may x hx
    · simp at hx; subst hx; exact ⟨hm.1, hm.2.1, hm.2.2⟩
end Go.Proofs.Ytbimaaknjedonaa
