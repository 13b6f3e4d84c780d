/- Elements that bear the place where they stood: the order by 'less', then by place; insertion keeps it; blocks that are sorted each by itself. -/
import Derived.Test.YtpaiaoaffoeleaaX4
namespace Go.Proofs.Ytpaiaoaffoeleaa
open Go.Sort
set_option linter.unusedVariables false
set_option linter.unusedSectionVars false
variable {β : Type} [Inhabited β]

/-- 'less' on the elements alone. -/
def ltB (lt : β → β → Bool) (x y : β × Nat) : Bool := lt x.1 y.1
/-- .. and where neither is less, by the place. -/
def ltT (lt : β → β → Bool) (x y : β × Nat) : Bool := lt x.1 y.1 || (!lt y.1 x.1 && decide (x.2 < y.2))
/-- The same, as a statement. -/
def TT (lt : β → β → Bool) (x y : β × Nat) : Prop := ltT lt x y = true

theorem ltT_iff {lt : β → β → Bool} {x y : β × Nat} : ltT lt x y = true ↔ lt x.1 y.1 = true ∨ (lt y.1 x.1 = false ∧ x.2 < y.2) := by
  unfold ltT; cases lt x.1 y.1 <;> cases lt y.1 x.1 <;> simp
theorem ltT_not {lt : β → β → Bool} {x y : β × Nat} : ltT lt x y = false ↔ lt x.1 y.1 = false ∧ (lt y.1 x.1 = true ∨ y.2 ≤ x.2) := by
  unfold ltT; cases lt x.1 y.1 <;> cases lt y.1 x.1 <;> simp

theorem asym_of {lt : β → β → Bool} (h : SWO lt) {x y : β} (a : lt x y = true) : lt y x = false := by
  cases e : lt y x
  · rfl
  · have := h.trans _ _ _ a e; rw [h.irrefl] at this; cases this
theorem lt_of_lt_not {lt : β → β → Bool} (h : SWO lt) {x y z : β} (a : lt x y = true) (b : lt z y = false) : lt x z = true := by
  cases e : lt x z
  · have := h.ntrans _ _ _ e b; rw [a] at this; cases this
  · rfl
theorem lt_of_not_lt {lt : β → β → Bool} (h : SWO lt) {x y z : β} (a : lt y x = false) (b : lt y z = true) : lt x z = true := by
  cases e : lt x z
  · have := h.ntrans _ _ _ a e; rw [b] at this; cases this
  · rfl

theorem tt_trans {lt : β → β → Bool} (h : SWO lt) : ∀ x y z : β × Nat, TT lt x y → TT lt y z → TT lt x z := by
  intro x y z a b
  unfold TT at *
  rw [ltT_iff] at *
  rcases a with a | ⟨a, a'⟩ <;> rcases b with b | ⟨b, b'⟩
  · exact .inl (h.trans _ _ _ a b)
  · exact .inl (lt_of_lt_not h a b)
  · exact .inl (lt_of_not_lt h a b)
  · exact .inr ⟨h.ntrans _ _ _ b a, by omega⟩

theorem swo_ltT {lt : β → β → Bool} (h : SWO lt) : SWO (ltT lt) where
  irrefl x := by rw [ltT_not]; exact ⟨h.irrefl _, .inr (Nat.le_refl _)⟩
  trans x y z := tt_trans h x y z
  ntrans x y z a b := by
    rw [ltT_not] at *
    obtain ⟨a, a'⟩ := a
    obtain ⟨b, b'⟩ := b
    refine ⟨h.ntrans _ _ _ a b, ?_⟩
    rcases a' with a' | a'
    · -- y < x; z not after y
      left
      cases e : lt z.1 x.1
      · -- x ≤ z, y < x: y < z: contradiction with b
        have := lt_of_lt_not h a' e
        rw [b] at this; cases this
      · rfl
    · rcases b' with b' | b'
      · left
        cases e : lt z.1 x.1
        · have := lt_of_lt_not h b' (show lt x.1 y.1 = false from a)
          rw [e] at this; cases this
        · rfl
      · exact .inr (by omega)

theorem tt_total {lt : β → β → Bool} {x y : β × Nat} (h : ltT lt y x = false) (hne : x.2 ≠ y.2) : TT lt x y := by
  unfold TT
  rw [ltT_not] at h
  rw [ltT_iff]
  obtain ⟨a, b⟩ := h
  rcases b with b | b
  · exact .inl b
  · exact .inr ⟨a, by omega⟩

/-! ### insertion, of elements whose places rise -/
theorem ins_perm {α : Type} [Inhabited α] (lt : α → α → Bool) (a : Nat) : ∀ (j : Nat) (d : Array α), a ≤ j → j < d.size → PermIn a (j + 1) d (insInner lt a j d)
  | 0, d, _, _ => by rw [insInner]; exact permIn_refl _ _ _
  | j + 1, d, h, hs => by
    rw [insInner]
    split
    · rename_i hc
      simp only [Bool.and_eq_true, decide_eq_true_eq] at hc
      have ih := ins_perm lt a j (swp d (j + 1) j) (by omega) (by rw [size_swp]; omega)
      exact permIn_trans _ _ _ _ _ (swp_permIn _ _ _ _ _ (by omega) (by omega) (by omega) (by omega) (by omega)) (permIn_mono _ _ a (j + 1) a (j + 1 + 1) (Nat.le_refl _) (by omega) (by rw [size_swp]; omega) ih)
    · exact permIn_refl _ _ _

theorem ins_same {lt : β → β → Bool} (a : Nat) : ∀ (j : Nat) (d : Array (β × Nat)), j < d.size → (∀ t, a ≤ t → t < j → d[t]!.2 < d[j]!.2) → insInner (ltB lt) a j d = insInner (ltT lt) a j d
  | 0, d, _, _ => by rw [insInner, insInner]
  | j + 1, d, hs, ht => by
    rw [insInner, insInner]
    by_cases hj : j + 1 > a
    · have e : ltT lt d[j + 1]! d[j]! = ltB lt d[j + 1]! d[j]! := by
        have := ht j (by omega) (by omega)
        unfold ltT ltB
        simp only [decide_eq_false (show ¬ d[j + 1]!.2 < d[j]!.2 by omega), Bool.and_false, Bool.or_false]
      rw [e]
      split
      · refine ins_same a j (swp d (j + 1) j) (by rw [size_swp]; omega) fun t h1 h2 => ?_
        rw [swp_at _ _ _ _ (by omega) (by omega), swp_at _ _ _ _ (by omega) (by omega), if_neg (by omega), if_neg (by omega), if_pos rfl]
        exact ht t h1 (by omega)
      · rfl
    · simp [hj]

theorem insO_same {lt : β → β → Bool} (a b : Nat) : ∀ (n i : Nat) (d : Array (β × Nat)), b - i = n → a < i → b ≤ d.size → (∀ t, a ≤ t → t < i → d[t]!.2 < i) → (∀ t, i ≤ t → t < b → d[t]!.2 = t) → insOuter (ltB lt) a b i d = insOuter (ltT lt) a b i d
  | 0, i, d, hn, hai, hb, h1, h2 => by
    rw [insOuter, if_neg (by omega), insOuter, if_neg (by omega)]
  | n + 1, i, d, hn, hai, hb, h1, h2 => by
    rw [insOuter, if_pos (by omega)]
    conv => rhs; rw [insOuter, if_pos (show i < b by omega)]
    have e := ins_same (lt := lt) a i d (by omega) fun t x y => by rw [h2 i (Nat.le_refl _) (by omega)]; exact h1 t x y
    rw [e]
    have p := ins_perm (ltT lt) a i d (by omega) (by omega)
    refine insO_same a b n (i + 1) _ (by omega) (by omega) (by rw [p.1]; exact hb) ?_ ?_
    · refine permIn_all d _ a (i + 1) (fun x => x.2 < i + 1) (by omega) p fun t x y => ?_
      by_cases c : t = i
      · rw [c, h2 i (Nat.le_refl _) (by omega)]; omega
      · have := h1 t x (by omega); omega
    · intro t x y
      rw [p.2.1 t (.inr (by omega))]
      exact h2 t (by omega) y

/-- A block that is sorted and holds just the places that are its own. -/
structure Blk (lt : β → β → Bool) (lo hi : Nat) (d : Array (β × Nat)) : Prop where
  ris : Ris (TT lt) lo hi d
  own : ∀ i, lo ≤ i → i < hi → lo ≤ d[i]!.2 ∧ d[i]!.2 < hi

theorem ins_blk {lt : β → β → Bool} (h : SWO lt) {a b : Nat} {d : Array (β × Nat)} (hab : a ≤ b) (hb : b ≤ d.size) (ht : ∀ t, a ≤ t → t < b → d[t]!.2 = t) : PermIn a b d (insertionSort (ltB lt) d a b) ∧ Blk lt a b (insertionSort (ltB lt) d a b) := by
  by_cases e : a = b
  · subst e
    unfold insertionSort
    rw [insOuter, if_neg (by omega)]
    exact ⟨permIn_refl _ _ _, ⟨fun i j _ _ _ => by omega, fun i _ _ => by omega⟩⟩
  have es : insertionSort (ltB lt) d a b = insertionSort (ltT lt) d a b := by
    unfold insertionSort
    exact insO_same a b _ (a + 1) d rfl (by omega) hb (fun t x y => by rw [ht t x (by omega)]; omega) (fun t x y => ht t (by omega) y)
  rw [es]
  obtain ⟨p, s⟩ := insertionSort_holds (lt := ltT lt) (swo_ltT h) d a b hab hb
  have own : ∀ i, a ≤ i → i < b → a ≤ (insertionSort (ltT lt) d a b)[i]!.2 ∧ (insertionSort (ltT lt) d a b)[i]!.2 < b :=
    permIn_all d _ a b (fun x => a ≤ x.2 ∧ x.2 < b) hb p fun t x y => by rw [ht t x y]; exact ⟨x, y⟩
  refine ⟨p, ⟨fun i j hi hij hj => tt_total (s i j hi hij hj) ?_, own⟩⟩
  -- places are not the same
  have nd : ((insertionSort (ltT lt) d a b).extract a b).toList.Pairwise (fun x y => x.2 ≠ y.2) := by
    have h0 : (d.extract a b).toList.Pairwise (fun x y => x.2 ≠ y.2) := by
      rw [extract_toList d a b hb, List.pairwise_map]
      refine List.Pairwise.imp_of_mem (R := fun x y => x < y) ?_ (List.pairwise_lt_range' (s := a) (n := b - a))
      intro x y hx hy hlt
      rw [List.mem_range'_1] at hx hy
      rw [ht x (by omega) (by omega), ht y (by omega) (by omega)]
      omega
    exact (List.Perm.pairwise_iff (fun h => Ne.symm h) p.2.2).2 h0
  rw [extract_toList _ a b (by rw [p.1]; exact hb), List.pairwise_map, List.pairwise_iff_getElem] at nd
  have := nd (i - a) (j - a) (by simp; omega) (by simp; omega) (by omega)
  simp only [List.getElem_range'] at this
  rwa [show a + 1 * (i - a) = i by omega, show a + 1 * (j - a) = j by omega] at this

theorem Blk.perm {lt : β → β → Bool} {lo hi a b : Nat} {d d' : Array (β × Nat)} (h : Blk lt lo hi d) (p : PermIn a b d d') (hd : hi ≤ a ∨ b ≤ lo) : Blk lt lo hi d' :=
  ⟨h.ris.perm p hd, fun i x y => by rw [p.2.1 i (by omega)]; exact h.own i x y⟩

theorem Blk.cross {lt : β → β → Bool} {a m b : Nat} {d : Array (β × Nat)} (h1 : Blk lt a m d) (h2 : Blk lt m b d) : Cross4 (TT lt) (ltB lt) a m b d := by
  intro i j hi hi' hj hj'
  refine ⟨fun h => ltT_iff.2 (.inl h), fun h => ltT_iff.2 (.inr ⟨h, ?_⟩)⟩
  have x := h1.own i hi hi'
  have y := h2.own j hj hj'
  omega

theorem Blk.merged {lt : β → β → Bool} {a m b : Nat} {d d' : Array (β × Nat)} (h1 : Blk lt a m d) (h2 : Blk lt m b d) (ham : a ≤ m) (hmb : m ≤ b) (hb : b ≤ d.size) (p : PermIn a b d d') (r : Ris (TT lt) a b d') : Blk lt a b d' :=
  ⟨r, permIn_all d d' a b (fun x => a ≤ x.2 ∧ x.2 < b) hb p fun t x y => by
    by_cases c : t < m
    · have := h1.own t x c; omega
    · have := h2.own t (by omega) y; omega⟩

end Go.Proofs.Ytpaiaoaffoeleaa
