/- Tasks, plain: what Settle does, one id after another; the calendar's entries. -/
import Derived.Test.YtlpjojegdnconaaDoorJ2
namespace Go.Proofs.YtlpjojegdnconaaDoor
open Go.RowKit Go.Lib
open Ca (Ky le2)
set_option linter.unusedVariables false

/-- The slots when the ids P were settled. -/
def AS (A : Nat → Option Int) (T : Nat → Tk) (P : List Int) (s : Nat) : Option Int := if ∃ i, A s = some i ∧ i ∈ P ∧ (T s).le = true then none else A s
def TS (A : Nat → Option Int) (T : Nat → Tk) (P : List Int) (s : Nat) : Tk := if ∃ i, A s = some i ∧ i ∈ P then (if (T s).le = true then zeroT else endT (T s)) else T s
/-- Who is leaving, who got too little. -/
def leS (S : List Tk) (i : Int) : Bool := match getT S i with | some x => x.le | none => false
def neS (S : List Tk) (i : Int) : Bool := match getT S i with | some x => decide (x.g ≠ x.e) | none => false

section
variable {c : Nat} {S : List Tk} {A : Nat → Option Int} {T : Nat → Tk}
theorem AS_nil : AS A T [] = A := by funext s; unfold AS; rw [if_neg (by rintro ⟨i, _, h, _⟩; cases h)]
theorem TS_nil : TS A T [] = T := by funext s; unfold TS; rw [if_neg (by rintro ⟨i, _, h⟩; cases h)]
theorem AS_some {P : List Int} {s : Nat} {i : Int} (h : AS A T P s = some i) : A s = some i ∧ ¬ (i ∈ P ∧ (T s).le = true) := by
  unfold AS at h
  split at h
  · cases h
  · next q => exact ⟨h, fun z => q ⟨i, h, z⟩⟩
theorem AS_none {P : List Int} {s : Nat} (h : A s = none) : AS A T P s = none := by
  unfold AS; rw [h]; simp
theorem AS_in {P : List Int} {s : Nat} {i : Int} (hs : A s = some i) (hi : i ∉ P) : AS A T P s = some i ∧ TS A T P s = T s := by
  constructor
  · unfold AS; rw [if_neg (by rintro ⟨j, h1, h2, _⟩; rw [hs] at h1; cases h1; exact hi h2)]; exact hs
  · unfold TS; rw [if_neg (by rintro ⟨j, h1, h2⟩; rw [hs] at h1; cases h1; exact hi h2)]
theorem AS_stay (a : At c A T) {P : List Int} {s : Nat} {i : Int} (hs : A s = some i) (hl : (T s).le = false) : AS A T (P ++ [i]) = AS A T P := by
  funext t
  unfold AS
  by_cases q : ∃ j, A t = some j ∧ j ∈ P ∧ (T t).le = true
  · obtain ⟨j, h1, h2, h3⟩ := q
    rw [if_pos ⟨j, h1, List.mem_append_left _ h2, h3⟩, if_pos ⟨j, h1, h2, h3⟩]
  · rw [if_neg q, if_neg]
    rintro ⟨j, h1, h2, h3⟩
    rcases List.mem_append.1 h2 with h2 | h2
    · exact q ⟨j, h1, h2, h3⟩
    · rw [List.mem_singleton.1 h2] at h1
      rw [a.inj t s i h1 hs, hl] at h3; cases h3
theorem AS_go (a : At c A T) {P : List Int} {s : Nat} {i : Int} (hs : A s = some i) (hl : (T s).le = true) : AS A T (P ++ [i]) = upd (AS A T P) s none := by
  funext t
  by_cases e : t = s
  · subst e; rw [upd_same]; unfold AS; rw [if_pos ⟨i, hs, by simp, hl⟩]
  · rw [upd_other _ _ e]
    unfold AS
    by_cases q : ∃ j, A t = some j ∧ j ∈ P ∧ (T t).le = true
    · obtain ⟨j, h1, h2, h3⟩ := q
      rw [if_pos ⟨j, h1, List.mem_append_left _ h2, h3⟩, if_pos ⟨j, h1, h2, h3⟩]
    · rw [if_neg q, if_neg]
      rintro ⟨j, h1, h2, h3⟩
      rcases List.mem_append.1 h2 with h2 | h2
      · exact q ⟨j, h1, h2, h3⟩
      · rw [List.mem_singleton.1 h2] at h1
        exact e (a.inj t s i h1 hs)
theorem TS_step (a : At c A T) {P : List Int} {s : Nat} {i : Int} (hs : A s = some i) : TS A T (P ++ [i]) = upd (TS A T P) s (if (T s).le = true then zeroT else endT (T s)) := by
  funext t
  by_cases e : t = s
  · subst e; rw [upd_same]; unfold TS; rw [if_pos ⟨i, hs, by simp⟩]
  · rw [upd_other _ _ e]
    unfold TS
    by_cases q : ∃ j, A t = some j ∧ j ∈ P
    · obtain ⟨j, h1, h2⟩ := q
      rw [if_pos (show ∃ j, A t = some j ∧ j ∈ P ++ [i] from ⟨j, h1, List.mem_append_left _ h2⟩), if_pos (show ∃ j, A t = some j ∧ j ∈ P from ⟨j, h1, h2⟩)]
    · rw [if_neg q, if_neg]
      rintro ⟨j, h1, h2⟩
      rcases List.mem_append.1 h2 with h2 | h2
      · exact q ⟨j, h1, h2⟩
      · rw [List.mem_singleton.1 h2] at h1
        exact e (a.inj t s i h1 hs)
theorem At.stl (a : At c A T) (P : List Int) : At c (AS A T P) (TS A T P) := by
  refine ⟨fun s i hs => ?_, fun s i hs => ?_, fun s t i h1 h2 => a.inj s t i (AS_some h1).1 (AS_some h2).1⟩
  · obtain ⟨h1, h2⟩ := AS_some hs
    unfold TS
    split
    · next q =>
      obtain ⟨j, h3, h4⟩ := q
      rw [h1] at h3; cases h3
      rw [if_neg (fun z => h2 ⟨h4, z⟩)]
      exact a.id s i h1
    · exact a.id s i h1
  · obtain ⟨h1, h2⟩ := AS_some hs
    unfold TS
    split
    · next q =>
      obtain ⟨j, h3, h4⟩ := q
      rw [h1] at h3; cases h3
      rw [if_neg (fun z => h2 ⟨h4, z⟩)]
      exact (a.ok s i h1).end (by
        cases e : (T s).le
        · rfl
        · exact absurd ⟨h4, e⟩ h2)
    · exact a.ok s i h1
/-- The ids P are those whose job's deadline is t or earlier. -/
def IsDue (A : Nat → Option Int) (T : Nat → Tk) (t : Int) (P : List Int) : Prop := ∀ i, i ∈ P ↔ ∃ s, A s = some i ∧ dueT t (T s) = true
theorem IsDue.at_ (a : At c A T) {t : Int} {P : List Int} (d : IsDue A T t P) {s : Nat} {i : Int} (hs : A s = some i) : i ∈ P ↔ dueT t (T s) = true := by
  rw [d i]
  constructor
  · rintro ⟨u, h1, h2⟩
    rwa [a.inj u s i h1 hs] at h2
  · exact fun h => ⟨s, hs, h⟩
theorem Sl.stl (h : Sl S A T) (a : At c A T) {t : Int} {P : List Int} (d : IsDue A T t P) : Sl (stlT t S) (AS A T P) (TS A T P) := by
  refine ⟨h.srt.stl t, fun y => ?_⟩
  unfold stlT
  rw [List.mem_map]
  have key : ∀ s i, A s = some i → lgT t (T s) = false → AS A T P s = some i ∧ TS A T P s = if dueT t (T s) = true then endT (T s) else T s := fun s i hs hl => by
    by_cases e : dueT t (T s) = true
    · have hp := (d.at_ a hs).2 e
      have hle : (T s).le = false := by unfold lgT at hl; rw [e] at hl; simpa using hl
      constructor
      · unfold AS; rw [if_neg (by rintro ⟨j, _, _, h3⟩; rw [hle] at h3; cases h3)]; exact hs
      · unfold TS; rw [if_pos ⟨i, hs, hp⟩, if_pos e, if_neg (by rw [hle]; simp)]
    · obtain ⟨h1, h2⟩ := AS_in (T := T) hs (fun z => e ((d.at_ a hs).1 z))
      exact ⟨h1, by rw [if_neg e]; exact h2⟩
  constructor
  · rintro ⟨x, hx, rfl⟩
    obtain ⟨h1, h2⟩ := List.mem_filter.1 hx
    obtain ⟨s, h3, rfl⟩ := (h.mem x).1 h1
    obtain ⟨k1, k2⟩ := key s _ h3 (by simpa using h2)
    exact ⟨s, by rw [due_id]; exact k1, k2⟩
  · rintro ⟨s, h1, h2⟩
    obtain ⟨h3, h4⟩ := AS_some h1
    have hl : lgT t (T s) = false := by
      cases e : lgT t (T s)
      · rfl
      · unfold lgT at e
        simp only [Bool.and_eq_true] at e
        exact absurd ⟨(d.at_ a h3).2 e.1, e.2⟩ h4
    obtain ⟨k1, k2⟩ := key s _ h3 hl
    exact ⟨T s, List.mem_filter.2 ⟨h.at_ a h3, by simp [hl]⟩, by rw [← k2]; exact h2⟩
theorem Sl.stlI (h : Sl S A T) (a : At c A T) {t : Int} {P : List Int} (d : IsDue A T t P) (nd : P.Nodup) : (P.filter (leS S)).mergeSort (fun x y => decide (x ≤ y)) = stlI t S := by
  unfold YtlpjojegdnconaaDoor.stlI
  refine lt_unique (sorted_lt (List.Pairwise.filter _ nd)) (h.srt.filter _).ids (fun x => ?_)
  rw [(List.mergeSort_perm _ _).mem_iff, List.mem_filter, List.mem_map]
  constructor
  · rintro ⟨h1, h2⟩
    obtain ⟨s, h3, h4⟩ := (d x).1 h1
    unfold leS at h2
    rw [h.get a h3] at h2
    exact ⟨T s, List.mem_filter.2 ⟨h.at_ a h3, by unfold lgT; rw [h4]; simpa using h2⟩, a.id s x h3⟩
  · rintro ⟨y, hy, rfl⟩
    obtain ⟨h1, h2⟩ := List.mem_filter.1 hy
    obtain ⟨s, h3, rfl⟩ := (h.mem y).1 h1
    unfold lgT at h2
    simp only [Bool.and_eq_true] at h2
    refine ⟨(d.at_ a h3).2 h2.1, ?_⟩
    unfold leS
    rw [h.get a h3]
    exact h2.2
theorem Sl.stlN (h : Sl S A T) (a : At c A T) {t : Int} {P : List Int} (d : IsDue A T t P) (nd : P.Nodup) : P.countP (neS S) = stlN t S := by
  have hp : P.Perm ((S.filter (dueT t)).map Tk.id) := by
    refine (List.perm_ext_iff_of_nodup nd (lt_nodup (h.srt.filter _).ids)).2 (fun x => ?_)
    rw [d x, List.mem_map]
    constructor
    · rintro ⟨s, h1, h2⟩
      exact ⟨T s, List.mem_filter.2 ⟨h.at_ a h1, h2⟩, a.id s x h1⟩
    · rintro ⟨y, hy, rfl⟩
      obtain ⟨h1, h2⟩ := List.mem_filter.1 hy
      obtain ⟨s, h3, rfl⟩ := (h.mem y).1 h1
      exact ⟨s, h3, h2⟩
  rw [hp.countP_eq, List.countP_map, List.countP_filter]
  unfold YtlpjojegdnconaaDoor.stlN
  refine List.countP_congr (fun x hx => ?_)
  have e : neS S x.id = decide (x.g ≠ x.e) := by unfold neS; rw [getT_some h.srt hx]
  unfold msT
  simp only [Function.comp, e]
  rw [Bool.and_comm]

/-! ### the calendar's entries -/
/-- The entries say which tasks have a job, and till when. -/
structure Lk (A : Nat → Option Int) (T : Nat → Tk) (L : List Ky) : Prop where
  mem : ∀ k : Ky, k ∈ L ↔ ∃ s, A s = some k.2 ∧ (T s).ac = true ∧ (T s).r + (T s).p = k.1
  nd : (L.map Prod.snd).Nodup
theorem Lk.same {L : List Ky} (h : Lk A T L) {s : Nat} {x : Tk} (h1 : x.ac = (T s).ac) (h2 : x.r = (T s).r) (h3 : x.p = (T s).p) : Lk A (upd T s x) L := by
  refine ⟨fun k => ?_, h.nd⟩
  rw [h.mem]
  refine exists_congr (fun t => ?_)
  by_cases e : t = s
  · subst e; rw [upd_same, h1, h2, h3]
  · rw [upd_other _ _ e]
theorem Lk.ins {L : List Ky} (h : Lk A T L) {s : Nat} (h0 : A s = none) {i : Int} {x : Tk} (hx : x.ac = false) : Lk (upd A s (some i)) (upd T s x) L := by
  refine ⟨fun k => ?_, h.nd⟩
  rw [h.mem]
  refine exists_congr (fun t => ?_)
  by_cases e : t = s
  · subst e; rw [upd_same, upd_same, h0, hx]; simp
  · rw [upd_other _ _ e, upd_other _ _ e]
theorem Lk.del {L : List Ky} (h : Lk A T L) {s : Nat} (h0 : (T s).ac = false) {T' : Nat → Tk} (hT : ∀ t, t ≠ s → T' t = T t) : Lk (upd A s none) T' L := by
  refine ⟨fun k => ?_, h.nd⟩
  rw [h.mem]
  refine exists_congr (fun t => ?_)
  by_cases e : t = s
  · subst e; rw [upd_same, h0]; simp
  · rw [upd_other _ _ e, hT t e]
theorem Lk.put {L : List Ky} (h : Lk A T L) (a : At c A T) {s : Nat} {i : Int} (hs : A s = some i) (h0 : (T s).ac = false) (t : Int) : Lk A (upd T s (begT t (T s))) (Ca.ins (t + (T s).p, i) L) := by
  have hni : i ∉ L.map Prod.snd := fun q => by
    obtain ⟨k, hk, rfl⟩ := List.mem_map.1 q
    obtain ⟨u, h1, h2, _⟩ := (h.mem k).1 hk
    rw [a.inj u s _ h1 hs, h0] at h2; cases h2
  refine ⟨fun k => ?_, ?_⟩
  · rw [(Ca.ins_perm _ L).mem_iff, List.mem_cons, h.mem]
    constructor
    · rintro (rfl | ⟨u, h1, h2, h3⟩)
      · exact ⟨s, hs, by rw [upd_same]; rfl, by rw [upd_same]; rfl⟩
      · have e : u ≠ s := fun e => by subst e; rw [h0] at h2; cases h2
        exact ⟨u, h1, by rw [upd_other _ _ e]; exact h2, by rw [upd_other _ _ e]; exact h3⟩
    · rintro ⟨u, h1, h2, h3⟩
      by_cases e : u = s
      · subst e
        rw [upd_same] at h3
        rw [hs] at h1
        refine .inl (Prod.ext h3.symm ?_)
        exact (Option.some.inj h1).symm
      · rw [upd_other _ _ e] at h2 h3; exact .inr ⟨u, h1, h2, h3⟩
  · refine ((Ca.ins_perm (t + (T s).p, i) L).map Prod.snd).nodup_iff.2 ?_
    rw [List.map_cons]
    exact List.nodup_cons.2 ⟨hni, h.nd⟩
/-- The first entry's job ends. -/
theorem Lk.tail {L : List Ky} {k : Ky} (h : Lk A T (k :: L)) (a : At c A T) {s : Nat} (hs : A s = some k.2) {A' : Nat → Option Int} {T' : Nat → Tk} (hA : ∀ t, t ≠ s → A' t = A t) (hT : ∀ t, t ≠ s → T' t = T t) (h0 : A' s = none ∨ (T' s).ac = false) : Lk A' T' L := by
  have hnd := h.nd
  rw [List.map_cons] at hnd
  obtain ⟨h1, h2⟩ := List.nodup_cons.1 hnd
  refine ⟨fun q => ?_, h2⟩
  constructor
  · intro hq
    obtain ⟨t, k1, k2, k3⟩ := (h.mem q).1 (List.mem_cons_of_mem _ hq)
    have e : t ≠ s := fun e => by
      subst e
      rw [hs] at k1
      exact h1 (List.mem_map.2 ⟨q, hq, (Option.some.inj k1).symm⟩)
    exact ⟨t, by rw [hA t e]; exact k1, by rw [hT t e]; exact k2, by rw [hT t e]; exact k3⟩
  · rintro ⟨t, k1, k2, k3⟩
    by_cases e : t = s
    · subst e
      rcases h0 with h0 | h0
      · rw [h0] at k1; cases k1
      · rw [h0] at k2; cases k2
    · rw [hA t e] at k1
      rw [hT t e] at k2 k3
      rcases List.mem_cons.1 ((h.mem q).2 ⟨t, k1, k2, k3⟩) with rfl | hq
      · exact absurd (a.inj t s _ k1 hs) e
      · exact hq
theorem due_filter (t : Int) : ∀ {L : List Ky}, L.Pairwise le2 → Ca.due t L = L.filter fun x => decide (x.1 ≤ t)
  | [], _ => rfl
  | x :: r, h => by
    obtain ⟨h1, h2⟩ := List.pairwise_cons.1 h
    have ih := due_filter t h2
    unfold Ca.due at ih ⊢
    by_cases e : x.1 ≤ t
    · rw [List.takeWhile_cons_of_pos (by simpa using e), List.filter_cons_of_pos (by simpa using e), ih]
    · rw [List.takeWhile_cons_of_neg (by simpa using e), List.filter_cons_of_neg (by simpa using e)]
      refine (List.filter_eq_nil_iff.2 (fun y hy q => ?_)).symm
      have := h1 y hy
      unfold Ca.le2 at this
      simp at q
      omega
/-- The entries that are due. -/
theorem Lk.isDue {L : List Ky} (h : Lk A T L) (hs : L.Pairwise le2) (t : Int) : IsDue A T t ((Ca.due t L).map Prod.snd) := by
  intro i
  rw [due_filter t hs, List.mem_map]
  constructor
  · rintro ⟨k, hk, rfl⟩
    obtain ⟨h1, h2⟩ := List.mem_filter.1 hk
    obtain ⟨s, h3, h4, h5⟩ := (h.mem k).1 h1
    exact ⟨s, h3, by unfold dueT; rw [h4, h5]; simpa using h2⟩
  · rintro ⟨s, h1, h2⟩
    unfold dueT at h2
    simp only [Bool.and_eq_true, decide_eq_true_eq] at h2
    exact ⟨((T s).r + (T s).p, i), List.mem_filter.2 ⟨(h.mem _).2 ⟨s, h1, h2.1, rfl⟩, by simpa using h2.2⟩, rfl⟩
end
end Go.Proofs.YtlpjojegdnconaaDoor
