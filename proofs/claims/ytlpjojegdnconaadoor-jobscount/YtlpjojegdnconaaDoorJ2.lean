/- Tasks, plain: what the slots hold and the list of tasks; the calendar's entries. -/
import Derived.Test.YtlpjojegdnconaaDoorJ1
namespace Go.Proofs.YtlpjojegdnconaaDoor
open Go.RowKit Go.Lib
set_option linter.unusedVariables false

/-- The slots: an id that stands there, and its task. -/
structure At (c : Nat) (A : Nat → Option Int) (T : Nat → Tk) : Prop where
  id : ∀ s i, A s = some i → (T s).id = i
  ok : ∀ s i, A s = some i → OkT c (T s)
  inj : ∀ s t i, A s = some i → A t = some i → s = t
/-- The list says what the slots hold. -/
structure Sl (S : List Tk) (A : Nat → Option Int) (T : Nat → Tk) : Prop where
  srt : Srt S
  mem : ∀ x, x ∈ S ↔ ∃ s, A s = some x.id ∧ T s = x

section
variable {c : Nat} {S : List Tk} {A : Nat → Option Int} {T : Nat → Tk}
theorem At.more (a : At c A T) {c' : Nat} (h : c ≤ c') : At c' A T := ⟨a.id, fun s i q => (a.ok s i q).more h, a.inj⟩
theorem Sl.at_ (h : Sl S A T) (a : At c A T) {s : Nat} {i : Int} (hs : A s = some i) : T s ∈ S := (h.mem (T s)).2 ⟨s, by rw [a.id s i hs]; exact hs, rfl⟩
theorem Sl.get (h : Sl S A T) (a : At c A T) {s : Nat} {i : Int} (hs : A s = some i) : getT S i = some (T s) := by
  have := getT_some h.srt (h.at_ a hs)
  rwa [a.id s i hs] at this
theorem Sl.no (h : Sl S A T) {i : Int} (hn : ∀ s, A s ≠ some i) : getT S i = none := getT_none (fun x hx e => by
  obtain ⟨s, hs, _⟩ := (h.mem x).1 hx
  exact hn s (by rw [hs, e]))
theorem Sl.back (h : Sl S A T) {i : Int} {x : Tk} (hx : getT S i = some x) : ∃ s, A s = some i ∧ T s = x := by
  obtain ⟨hm, e⟩ := getT_mem hx
  obtain ⟨s, h1, h2⟩ := (h.mem x).1 hm
  exact ⟨s, by rw [h1, e], h2⟩
theorem Sl.not_at (h : Sl S A T) (a : At c A T) {i : Int} (hx : getT S i = none) : ∀ s, A s ≠ some i := fun s hs => by
  rw [h.get a hs] at hx; cases hx
theorem Sl.ids (h : Sl S A T) (a : At c A T) {l : List Int} (hl : l.Pairwise (· < ·)) (hm : ∀ x, x ∈ l ↔ ∃ s, A s = some x) : l = S.map Tk.id := by
  refine lt_unique hl h.srt.ids (fun x => ?_)
  rw [hm, List.mem_map]
  constructor
  · rintro ⟨s, hs⟩
    exact ⟨T s, h.at_ a hs, a.id s x hs⟩
  · rintro ⟨y, hy, rfl⟩
    obtain ⟨s, hs, _⟩ := (h.mem y).1 hy
    exact ⟨s, hs⟩

/-! ### one task turned, one more, one less -/
theorem At.set (a : At c A T) {s : Nat} {i : Int} (hs : A s = some i) {x : Tk} (hx : x.id = i) (ok : OkT c x) : At c A (upd T s x) := by
  refine ⟨fun t j q => ?_, fun t j q => ?_, a.inj⟩
  · by_cases e : t = s
    · subst e; rw [upd_same, hx]; rw [hs] at q; cases q; rfl
    · rw [upd_other _ _ e]; exact a.id t j q
  · by_cases e : t = s
    · subst e; rw [upd_same]; exact ok
    · rw [upd_other _ _ e]; exact a.ok t j q
theorem Sl.set (h : Sl S A T) (a : At c A T) {s : Nat} {i : Int} (hs : A s = some i) {x : Tk} (hx : x.id = i) : Sl (setT S x) A (upd T s x) := by
  refine ⟨h.srt.set x, fun y => ?_⟩
  rw [mem_setT ⟨T s, h.at_ a hs, by rw [a.id s i hs, hx]⟩]
  constructor
  · rintro (rfl | ⟨hy, e⟩)
    · exact ⟨s, by rw [hx]; exact hs, upd_same _ _ _⟩
    · obtain ⟨t, h1, h2⟩ := (h.mem y).1 hy
      refine ⟨t, h1, ?_⟩
      rw [upd_other _ _ (fun q => by subst q; rw [hs] at h1; cases h1; exact e hx.symm)]
      exact h2
  · rintro ⟨t, h1, h2⟩
    by_cases e : t = s
    · subst e; rw [upd_same] at h2; exact .inl h2.symm
    · rw [upd_other _ _ e] at h2
      refine .inr ⟨(h.mem y).2 ⟨t, h1, h2⟩, fun q => e (a.inj t s i (by rw [h1, q, hx]) hs)⟩
theorem At.ins (a : At c A T) {s : Nat} (h0 : A s = none) {x : Tk} (hn : ∀ t, A t ≠ some x.id) (ok : OkT c x) : At c (upd A s (some x.id)) (upd T s x) := by
  refine ⟨fun t j q => ?_, fun t j q => ?_, fun t u j q r => ?_⟩
  · by_cases e : t = s
    · subst e; rw [upd_same] at q ⊢; cases q; rfl
    · rw [upd_other _ _ e] at q ⊢; exact a.id t j q
  · by_cases e : t = s
    · subst e; rw [upd_same]; exact ok
    · rw [upd_other _ _ e] at q ⊢; exact a.ok t j q
  · by_cases e : t = s
    · by_cases e2 : u = s
      · rw [e, e2]
      · subst e; rw [upd_same] at q; cases q; rw [upd_other _ _ e2] at r; exact absurd r (hn u)
    · rw [upd_other _ _ e] at q
      by_cases e2 : u = s
      · subst e2; rw [upd_same] at r; cases r; exact absurd q (hn t)
      · rw [upd_other _ _ e2] at r; exact a.inj t u j q r
theorem Sl.ins (h : Sl S A T) {s : Nat} (h0 : A s = none) {x : Tk} (hn : ∀ t, A t ≠ some x.id) : Sl (insT x S) (upd A s (some x.id)) (upd T s x) := by
  refine ⟨h.srt.ins (fun y hy e => by
    obtain ⟨t, h1, _⟩ := (h.mem y).1 hy
    exact hn t (by rw [h1, e])), fun y => ?_⟩
  rw [mem_insT]
  constructor
  · rintro (rfl | hy)
    · exact ⟨s, upd_same _ _ _, upd_same _ _ _⟩
    · obtain ⟨t, h1, h2⟩ := (h.mem y).1 hy
      have e : t ≠ s := fun e => by subst e; rw [h0] at h1; cases h1
      exact ⟨t, by rw [upd_other _ _ e]; exact h1, by rw [upd_other _ _ e]; exact h2⟩
  · rintro ⟨t, h1, h2⟩
    by_cases e : t = s
    · subst e; rw [upd_same] at h2; exact .inl h2.symm
    · rw [upd_other _ _ e] at h1 h2; exact .inr ((h.mem y).2 ⟨t, h1, h2⟩)
theorem At.del (a : At c A T) {s : Nat} {T' : Nat → Tk} (hT : ∀ t, t ≠ s → T' t = T t) : At c (upd A s none) T' := by
  have key : ∀ t j, upd A s none t = some j → t ≠ s ∧ A t = some j := fun t j q => by
    by_cases e : t = s
    · subst e; rw [upd_same] at q; cases q
    · rw [upd_other _ _ e] at q; exact ⟨e, q⟩
  refine ⟨fun t j q => ?_, fun t j q => ?_, fun t u j q r => a.inj t u j (key t j q).2 (key u j r).2⟩
  · rw [hT t (key t j q).1]; exact a.id t j (key t j q).2
  · rw [hT t (key t j q).1]; exact a.ok t j (key t j q).2
theorem Sl.del (h : Sl S A T) (a : At c A T) {s : Nat} {i : Int} (hs : A s = some i) {T' : Nat → Tk} (hT : ∀ t, t ≠ s → T' t = T t) : Sl (delT S i) (upd A s none) T' := by
  refine ⟨h.srt.del i, fun y => ?_⟩
  rw [mem_delT]
  constructor
  · rintro ⟨hy, e⟩
    obtain ⟨t, h1, h2⟩ := (h.mem y).1 hy
    have q : t ≠ s := fun q => by subst q; rw [hs] at h1; cases h1; exact e rfl
    exact ⟨t, by rw [upd_other _ _ q]; exact h1, by rw [hT t q]; exact h2⟩
  · rintro ⟨t, h1, h2⟩
    by_cases q : t = s
    · subst q; rw [upd_same] at h1; cases h1
    · rw [upd_other _ _ q] at h1
      rw [hT t q] at h2
      exact ⟨(h.mem y).2 ⟨t, h1, h2⟩, fun e => q (a.inj t s i (by rw [h1, e]) hs)⟩

/-! ### Release -/
/-- The tasks when the first k slots were looked at. -/
def TR (t : Int) (A : Nat → Option Int) (T : Nat → Tk) (k s : Nat) : Tk := if s < k ∧ (A s).isSome = true ∧ ready (T s) = true then begT t (T s) else T s
/-- The ids that were released. -/
def rI (A : Nat → Option Int) (T : Nat → Tk) : Nat → List Int
  | 0 => []
  | k + 1 => rI A T k ++ (if (A k).isSome = true ∧ ready (T k) = true then [(T k).id] else [])
theorem TR_zero (t : Int) : TR t A T 0 = T := by funext s; unfold TR; rw [if_neg (by omega)]
theorem TR_at (t : Int) (k : Nat) : TR t A T k k = T k := by unfold TR; rw [if_neg (by omega)]
theorem TR_yes (t : Int) {k : Nat} (h1 : (A k).isSome = true) (h2 : ready (T k) = true) : TR t A T (k + 1) = upd (TR t A T k) k (begT t (T k)) := by
  funext s
  by_cases e : s = k
  · subst e; rw [upd_same]; unfold TR; rw [if_pos ⟨by omega, h1, h2⟩]
  · rw [upd_other _ _ e]
    unfold TR
    by_cases q : s < k
    · by_cases r : (A s).isSome = true ∧ ready (T s) = true
      · rw [if_pos ⟨by omega, r⟩, if_pos ⟨q, r⟩]
      · rw [if_neg (fun z => r z.2), if_neg (fun z => r z.2)]
    · rw [if_neg (fun z => by omega), if_neg (fun z => q z.1)]
theorem TR_no (t : Int) {k : Nat} (h : ¬ ((A k).isSome = true ∧ ready (T k) = true)) : TR t A T (k + 1) = TR t A T k := by
  funext s
  unfold TR
  by_cases e : s = k
  · subst e; rw [if_neg (fun z => h z.2), if_neg (fun z => by omega)]
  · by_cases q : s < k
    · by_cases r : (A s).isSome = true ∧ ready (T s) = true
      · rw [if_pos ⟨by omega, r⟩, if_pos ⟨q, r⟩]
      · rw [if_neg (fun z => r z.2), if_neg (fun z => r z.2)]
    · rw [if_neg (fun z => by omega), if_neg (fun z => q z.1)]
theorem mem_rI {x : Int} : ∀ {k : Nat}, x ∈ rI A T k ↔ ∃ s, s < k ∧ (A s).isSome = true ∧ ready (T s) = true ∧ (T s).id = x
  | 0 => by simp [rI]
  | k + 1 => by
    unfold rI
    rw [List.mem_append, mem_rI]
    constructor
    · rintro (⟨s, h1, h2⟩ | h)
      · exact ⟨s, by omega, h2⟩
      · split at h
        · next q => exact ⟨k, by omega, q.1, q.2, (List.mem_singleton.1 h).symm⟩
        · cases h
    · rintro ⟨s, h1, h2, h3, h4⟩
      by_cases e : s = k
      · subst e; rw [if_pos ⟨h2, h3⟩]; exact .inr (by simp [h4])
      · exact .inl ⟨s, by omega, h2, h3, h4⟩
theorem rI_len : ∀ k, (rI A T k).length ≤ k
  | 0 => Nat.le_refl _
  | k + 1 => by
    unfold rI
    rw [List.length_append]
    have := rI_len k
    split <;> simp <;> omega
theorem rI_nodup (a : At c A T) : ∀ k, (rI A T k).Nodup
  | 0 => List.nodup_nil
  | k + 1 => by
    unfold rI
    split
    · next q =>
      refine List.nodup_append.2 ⟨rI_nodup a k, by simp, fun x hx y hy e => ?_⟩
      obtain ⟨s, h1, h2, h3, h4⟩ := mem_rI.1 hx
      have hy' : y = (T k).id := by simpa using hy
      obtain ⟨i, hi⟩ := Option.isSome_iff_exists.1 h2
      obtain ⟨j, hj⟩ := Option.isSome_iff_exists.1 q.1
      have e1 := a.id s i hi
      have e2 := a.id k j hj
      have : s = k := a.inj s k i hi (by rw [hj, ← e2, ← hy', ← e, ← h4, e1])
      omega
    · rw [List.append_nil]; exact rI_nodup a k
theorem Sl.rel (h : Sl S A T) (a : At c A T) (t : Int) {m : Nat} (hm : ∀ s, A s ≠ none → s < m) : Sl (relT t S) A (TR t A T m) := by
  refine ⟨h.srt.rel t, fun y => ?_⟩
  unfold relT
  rw [List.mem_map]
  have key : ∀ s i, A s = some i → TR t A T m s = if ready (T s) then begT t (T s) else T s := fun s i hs => by
    unfold TR
    have h1 := hm s (by rw [hs]; simp)
    by_cases r : ready (T s) = true
    · rw [if_pos ⟨h1, by rw [hs]; rfl, r⟩, if_pos r]
    · rw [if_neg (fun z => r z.2.2), if_neg r]
  constructor
  · rintro ⟨x, hx, rfl⟩
    obtain ⟨s, h1, rfl⟩ := (h.mem x).1 hx
    exact ⟨s, by rw [ready_id]; exact h1, key s _ h1⟩
  · rintro ⟨s, h1, h2⟩
    rw [key s _ h1] at h2
    refine ⟨T s, h.at_ a h1, h2⟩
theorem Sl.relI (h : Sl S A T) (a : At c A T) {m : Nat} (hm : ∀ s, A s ≠ none → s < m) : (rI A T m).mergeSort (fun x y => decide (x ≤ y)) = relI S := by
  unfold YtlpjojegdnconaaDoor.relI
  refine lt_unique (sorted_lt (rI_nodup a m)) (h.srt.filter _).ids (fun x => ?_)
  rw [(List.mergeSort_perm _ _).mem_iff, mem_rI, List.mem_map]
  constructor
  · rintro ⟨s, h1, h2, h3, h4⟩
    obtain ⟨i, hi⟩ := Option.isSome_iff_exists.1 h2
    exact ⟨T s, List.mem_filter.2 ⟨h.at_ a hi, h3⟩, h4⟩
  · rintro ⟨y, hy, rfl⟩
    obtain ⟨h1, h2⟩ := List.mem_filter.1 hy
    obtain ⟨s, h3, rfl⟩ := (h.mem y).1 h1
    exact ⟨s, hm s (by rw [h3]; simp), by rw [h3]; rfl, h2, rfl⟩
theorem At.rel (a : At c A T) {t : Int} (h0 : 0 ≤ t) (ht : t ≤ 1000000000000) (k : Nat) (x : Nat) : At (c + 1) A (TR t A T k) := by
  refine ⟨fun s i hs => ?_, fun s i hs => ?_, a.inj⟩
  · unfold TR; split
    · exact a.id s i hs
    · exact a.id s i hs
  · unfold TR; split
    · exact (a.ok s i hs).beg h0 ht
    · exact (a.ok s i hs).more (Nat.le_succ c)
end
end Go.Proofs.YtlpjojegdnconaaDoor
