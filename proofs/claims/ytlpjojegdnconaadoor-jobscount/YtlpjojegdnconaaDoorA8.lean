/- The chains of a calendar, plain: marks, who has them, how they are linked. -/
import Derived.Test.YtlpjojegdnconaaDoorE6
namespace Go.Proofs.YtlpjojegdnconaaDoor.Ca
set_option linter.unusedVariables false

/-- A function of whole numbers, turned at one place. -/
def updI {α : Type} (f : Int → α) (m : Int) (x : α) : Int → α := fun s => if s = m then x else f s
theorem updI_same {α : Type} (f : Int → α) (m : Int) (x : α) : updI f m x m = x := by simp [updI]
theorem updI_other {α : Type} (f : Int → α) {m : Int} (x : α) {s : Int} (h : s ≠ m) : updI f m x s = f s := by simp [updI, h]

/-- A row of links from f on, to its end. -/
def Chain (X : Nat → Nat) : Nat → List Nat → Prop
  | f, [] => f = 0
  | f, m :: r => f = m ∧ Chain X (X m) r
theorem Chain.congr {X Y : Nat → Nat} : ∀ {l : List Nat} {f : Nat}, Chain X f l → (∀ m, m ∈ l → Y m = X m) → Chain Y f l
  | [], _, h, _ => h
  | m :: r, _, h, q => ⟨h.1, by rw [q m (by simp)]; exact h.2.congr (fun x hx => q x (by simp [hx]))⟩

/-- The chains: N places (the first is none), neighbours P and X, the first free one, the heads H; who has which mark. -/
structure ChI (N : Nat) (P X : Nat → Nat) (free : Nat) (H : Int → Nat) (own : Nat → Option Int) (rk : Nat → Nat) (R : Nat) (FL : List Nat) : Prop where
  pos : 0 < N
  out : ∀ m i, own m = some i → 0 < m ∧ m < N
  top : ∀ m i, own m = some i → rk m < R
  p0 : ∀ m i, own m = some i → P m = 0 → H i = m
  p1 : ∀ m i, own m = some i → P m ≠ 0 → own (P m) = some i ∧ X (P m) = m ∧ rk m < rk (P m)
  x1 : ∀ m i, own m = some i → X m ≠ 0 → own (X m) = some i ∧ P (X m) = m
  h1 : ∀ i, H i ≠ 0 → own (H i) = some i ∧ P (H i) = 0
  fr : Chain X free FL
  nd : FL.Nodup
  fo : ∀ m, m ∈ FL → 0 < m ∧ m < N ∧ own m = none

section
variable {N : Nat} {P X : Nat → Nat} {free : Nat} {H : Int → Nat} {own : Nat → Option Int} {rk : Nat → Nat} {R : Nat} {FL : List Nat}

/-- Who has a mark has a first one. -/
theorem ChI.head (h : ChI N P X free H own rk R FL) {i : Int} : ∀ (f m : Nat), R - rk m ≤ f → own m = some i → H i ≠ 0
  | 0, m, hf, ho => by have := h.top m i ho; omega
  | f + 1, m, hf, ho => by
    by_cases e : P m = 0
    · rw [h.p0 m i ho e]; have := h.out m i ho; omega
    · obtain ⟨a, b, c⟩ := h.p1 m i ho e
      have := h.top _ i a
      exact h.head f (P m) (by omega) a
theorem ChI.head' (h : ChI N P X free H own rk R FL) {i : Int} {m : Nat} (ho : own m = some i) : H i ≠ 0 := h.head _ m (Nat.le_refl _) ho
theorem ChI.hlt (h : ChI N P X free H own rk R FL) (i : Int) : H i < N := by
  by_cases e : H i = 0
  · rw [e]; exact h.pos
  · exact (h.out _ i (h.h1 i e).1).2
theorem ChI.plt (h : ChI N P X free H own rk R FL) {i : Int} {m : Nat} (ho : own m = some i) : P m < N := by
  by_cases e : P m = 0
  · rw [e]; exact h.pos
  · exact (h.out _ i (h.p1 m i ho e).1).2
theorem ChI.xlt (h : ChI N P X free H own rk R FL) {i : Int} {m : Nat} (ho : own m = some i) : X m < N := by
  by_cases e : X m = 0
  · rw [e]; exact h.pos
  · exact (h.out _ i (h.x1 m i ho e).1).2
theorem ChI.flt (h : ChI N P X free H own rk R FL) : free < N := by
  cases FL with
  | nil => have : free = 0 := h.fr; rw [this]; exact h.pos
  | cons m r => have := h.fr.1; rw [this]; exact (h.fo m (by simp)).2.1

/-- The first free one is taken. -/
theorem ChI.take (h : ChI N P X free H own rk R FL) (hf : free ≠ 0) : ∃ FL', ChI N P X (X free) H own rk R FL' ∧ free ∉ FL' ∧ free < N ∧ own free = none := by
  cases FL with
  | nil => exact absurd h.fr hf
  | cons m r =>
    obtain ⟨rfl, h2⟩ := h.fr
    have hn := List.nodup_cons.1 h.nd
    have ho := h.fo free (by simp)
    exact ⟨r, ⟨h.pos, h.out, h.top, h.p0, h.p1, h.x1, h.h1, h2, hn.2, fun m hm => h.fo m (by simp [hm])⟩, hn.1, ho.2.1, ho.2.2⟩
/-- One place more. -/
theorem ChI.more (h : ChI N P X free H own rk R FL) (hf : free = 0) : ChI (N + 1) (upd P N 0) (upd X N 0) 0 H own rk R [] ∧ own N = none := by
  have hN : own N = none := by
    cases e : own N with
    | none => rfl
    | some i => have := h.out N i e; omega
  have ne : ∀ m i, own m = some i → m ≠ N := fun m i ho e => by have := (h.out m i ho).2; omega
  have hp := h.pos
  refine ⟨⟨by omega, fun m i ho => ?_, h.top, fun m i ho hp => ?_, fun m i ho hp => ?_, fun m i ho hx => ?_, fun i hi => ?_, rfl, List.nodup_nil, fun m hm => by cases hm⟩, hN⟩
  · have := h.out m i ho; omega
  · rw [upd_other _ _ (ne m i ho)] at hp; exact h.p0 m i ho hp
  · rw [upd_other _ _ (ne m i ho)] at hp ⊢
    obtain ⟨a, b, c⟩ := h.p1 m i ho hp
    rw [upd_other _ _ (ne _ i a)]
    exact ⟨a, b, c⟩
  · rw [upd_other _ _ (ne m i ho)] at hx ⊢
    obtain ⟨a, b⟩ := h.x1 m i ho hx
    rw [upd_other _ _ (ne _ i a)]
    exact ⟨a, b⟩
  · obtain ⟨a, b⟩ := h.h1 i hi
    rw [upd_other _ _ (ne _ i a)]
    exact ⟨a, b⟩

/-- A mark more for i, ahead of its others. -/
theorem ChI.add (h : ChI N P X free H own rk R FL) {m : Nat} (hm : 0 < m) (hN : m < N) (ho : own m = none) (hf : m ∉ FL) (i : Int) :
    ChI N (upd (upd P m 0) (H i) m) (upd X m (H i)) free (updI H i m) (upd own m (some i)) (upd rk m R) (R + 1) FL := by
  have nm : ∀ k j, own k = some j → k ≠ m := fun k j hk e => by rw [e, ho] at hk; cases hk
  have hne : H i ≠ m := fun e => by
    have := h.h1 i (by omega)
    rw [e, ho] at this; cases this.1
  refine ⟨h.pos, fun k j hk => ?_, fun k j hk => ?_, fun k j hk hp => ?_, fun k j hk hp => ?_, fun k j hk hx => ?_, fun j hj => ?_, h.fr.congr (fun x hx => upd_other _ _ (fun e : x = m => hf (by rw [← e]; exact hx))), h.nd, fun x hx => ?_⟩
  · by_cases e : k = m
    · subst e; exact ⟨hm, hN⟩
    · rw [upd_other _ _ e] at hk; exact h.out k j hk
  · by_cases e : k = m
    · subst e; rw [upd_same]; omega
    · rw [upd_other _ _ e] at hk ⊢; have := h.top k j hk; omega
  · by_cases e : k = m
    · subst e; rw [upd_same] at hk; cases hk; exact updI_same _ _ _
    · rw [upd_other _ _ e] at hk
      by_cases e2 : k = H i
      · rw [e2, upd_same] at hp; omega
      · rw [upd_other _ _ e2, upd_other _ _ e] at hp
        have := h.p0 k j hk hp
        by_cases e3 : j = i
        · subst e3; exact absurd this.symm e2
        · rw [updI_other _ _ e3]; exact this
  · by_cases e : k = m
    · subst e
      rw [upd_other _ _ (Ne.symm hne), upd_same] at hp; omega
    · rw [upd_other _ _ e] at hk
      by_cases e2 : k = H i
      · have hk0 : H i ≠ 0 := by have := h.out k j hk; omega
        obtain ⟨a, b⟩ := h.h1 i hk0
        rw [e2, a] at hk
        cases hk
        rw [e2, upd_same, upd_same, upd_same, upd_same, upd_other _ _ hne]
        exact ⟨rfl, rfl, h.top _ _ a⟩
      · rw [upd_other _ _ e2, upd_other _ _ e] at hp ⊢
        obtain ⟨a, b, c⟩ := h.p1 k j hk hp
        have q := nm _ j a
        rw [upd_other _ _ q, upd_other _ _ q, upd_other _ _ q, upd_other _ _ e]
        exact ⟨a, b, c⟩
  · by_cases e : k = m
    · subst e
      rw [upd_same] at hk hx ⊢
      cases hk
      obtain ⟨a, b⟩ := h.h1 i hx
      rw [upd_other _ _ hne, upd_same]
      exact ⟨a, rfl⟩
    · rw [upd_other _ _ e] at hk hx ⊢
      obtain ⟨a, b⟩ := h.x1 k j hk hx
      have q := nm _ j a
      rw [upd_other _ _ q]
      refine ⟨a, ?_⟩
      by_cases e2 : X k = H i
      · have h0 : H i ≠ 0 := by rw [← e2]; exact hx
        have := (h.h1 i h0).2
        rw [e2] at b
        have hk0 := (h.out k j hk).1
        omega
      · rw [upd_other _ _ e2, upd_other _ _ q]; exact b
  · by_cases e : j = i
    · subst e; rw [updI_same]
      rw [upd_same, upd_other _ _ (Ne.symm hne), upd_same]
      exact ⟨rfl, rfl⟩
    · rw [updI_other _ _ e] at hj ⊢
      obtain ⟨a, b⟩ := h.h1 j hj
      have q := nm _ j a
      rw [upd_other _ _ q]
      refine ⟨a, ?_⟩
      by_cases e2 : H j = H i
      · have := (h.h1 i (by rw [← e2]; exact hj)).1
        rw [← e2, a] at this
        exact absurd (Option.some.inj this) e
      · rw [upd_other _ _ e2, upd_other _ _ q]; exact b
  · have := h.fo x hx
    rw [upd_other _ _ (fun e : x = m => hf (by rw [← e]; exact hx))]
    exact this

/-- The head of i behind a mark's going. -/
def headR (P X : Nat → Nat) (H : Int → Nat) (m : Nat) (i : Int) : Int → Nat := if P m = 0 then updI H i (X m) else H
/-- A mark is taken from i. -/
theorem ChI.remove (h : ChI N P X free H own rk R FL) {m : Nat} {i : Int} (ho : own m = some i) :
    ChI N (upd (upd P (X m) (P m)) m 0) (upd (upd X (P m) (X m)) m free) m (headR P X H m i) (upd own m none) rk R (m :: FL) := by
  have hm := h.out m i ho
  have hpm : P m ≠ m := fun e => by
    have := (h.p1 m i ho (by omega)).2.2
    rw [e] at this; omega
  have hxm : X m ≠ m := fun e => by
    have := (h.x1 m i ho (by omega)).2
    rw [e] at this; exact hpm this
  have hfm : m ∉ FL := fun q => by have := (h.fo m q).2.2; rw [ho] at this; cases this
  have ow : ∀ {k j}, upd own m none k = some j → k ≠ m ∧ own k = some j := fun {k j} hk => by
    by_cases e : k = m
    · subst e; rw [upd_same] at hk; cases hk
    · rw [upd_other _ _ e] at hk; exact ⟨e, hk⟩
  have inj : ∀ {k j}, own k = some j → P k = m → k = X m := fun {k j} hk e => by
    have := h.p1 k j hk (by omega)
    rw [e] at this; exact this.2.1.symm
  have injx : ∀ {k j}, own k = some j → X k = m → k = P m := fun {k j} hk e => by
    have := h.x1 k j hk (by omega)
    rw [e] at this; exact this.2.symm
  have pne : ∀ {k j}, own k = some j → k ≠ X m → P k ≠ m := fun hk q e => q (inj hk e)
  refine ⟨h.pos, fun k j hk => h.out k j (ow hk).2, fun k j hk => h.top k j (ow hk).2, fun k j hk hp => ?_, fun k j hk hp => ?_, fun k j hk hx => ?_, fun j hj => ?_, ⟨rfl, ?_⟩, List.nodup_cons.2 ⟨hfm, h.nd⟩, fun x hx => ?_⟩
  · obtain ⟨e, hk⟩ := ow hk
    rw [upd_other _ _ e] at hp
    unfold headR
    by_cases e2 : k = X m
    · have hx0 : X m ≠ 0 := by have := h.out k j hk; omega
      have a := (h.x1 m i ho hx0).1
      rw [← e2, hk] at a
      cases a
      rw [e2, upd_same] at hp
      rw [if_pos hp, updI_same, e2]
    · rw [upd_other _ _ e2] at hp
      have a := h.p0 k j hk hp
      by_cases e3 : P m = 0
      · rw [if_pos e3]
        by_cases e4 : j = i
        · subst e4
          have := h.p0 m j ho e3
          omega
        · rw [updI_other _ _ e4]; exact a
      · rw [if_neg e3]; exact a
  · obtain ⟨e, hk⟩ := ow hk
    rw [upd_other _ _ e] at hp ⊢
    by_cases e2 : k = X m
    · have hx0 : X m ≠ 0 := by have := h.out k j hk; omega
      obtain ⟨a, b⟩ := h.x1 m i ho hx0
      rw [← e2, hk] at a
      cases a
      rw [e2, upd_same] at hp ⊢
      obtain ⟨a1, b1, c1⟩ := h.p1 m i ho hp
      rw [upd_other _ _ hpm, upd_other _ _ hpm, upd_same]
      refine ⟨a1, rfl, ?_⟩
      have := (h.p1 (X m) i (by rw [← e2]; exact hk) (by rw [b]; omega)).2.2
      rw [b] at this
      omega
    · rw [upd_other _ _ e2] at hp ⊢
      obtain ⟨a1, b1, c1⟩ := h.p1 k j hk hp
      have q := pne hk e2
      rw [upd_other _ _ q, upd_other _ _ q]
      refine ⟨a1, ?_, c1⟩
      by_cases e3 : P k = P m
      · have hp0 : P m ≠ 0 := by rw [← e3]; exact hp
        have := (h.p1 m i ho hp0).2.1
        rw [← e3, b1] at this
        exact absurd this e
      · rw [upd_other _ _ e3]; exact b1
  · obtain ⟨e, hk⟩ := ow hk
    rw [upd_other _ _ e] at hx ⊢
    by_cases e2 : k = P m
    · have hp0 : P m ≠ 0 := by have := h.out k j hk; omega
      obtain ⟨a, b, c⟩ := h.p1 m i ho hp0
      rw [← e2, hk] at a
      cases a
      rw [e2, upd_same] at hx ⊢
      obtain ⟨a1, b1⟩ := h.x1 m i ho hx
      rw [upd_other _ _ hxm, upd_other _ _ hxm, upd_same]
      exact ⟨a1, rfl⟩
    · rw [upd_other _ _ e2] at hx ⊢
      obtain ⟨a1, b1⟩ := h.x1 k j hk hx
      have q : X k ≠ m := fun q => e2 (injx hk q)
      rw [upd_other _ _ q, upd_other _ _ q]
      refine ⟨a1, ?_⟩
      by_cases e3 : X k = X m
      · have hx0 : X m ≠ 0 := by rw [← e3]; exact hx
        have := (h.x1 m i ho hx0).2
        rw [← e3, b1] at this
        exact absurd this e
      · rw [upd_other _ _ e3]; exact b1
  · unfold headR at hj ⊢
    by_cases e3 : P m = 0
    · rw [if_pos e3] at hj ⊢
      by_cases e4 : j = i
      · subst e4
        rw [updI_same] at hj ⊢
        obtain ⟨a, b⟩ := h.x1 m j ho hj
        rw [upd_other _ _ hxm, upd_other _ _ hxm, upd_same]
        exact ⟨a, e3⟩
      · rw [updI_other _ _ e4] at hj ⊢
        obtain ⟨a, b⟩ := h.h1 j hj
        have q : H j ≠ m := fun q => by rw [q, ho] at a; exact e4 (Option.some.inj a).symm
        rw [upd_other _ _ q, upd_other _ _ q]
        refine ⟨a, ?_⟩
        by_cases e5 : H j = X m
        · rw [e5, upd_same]; exact e3
        · rw [upd_other _ _ e5]; exact b
    · rw [if_neg e3] at hj ⊢
      obtain ⟨a, b⟩ := h.h1 j hj
      have q : H j ≠ m := fun q => by rw [q] at b; exact e3 b
      rw [upd_other _ _ q, upd_other _ _ q]
      refine ⟨a, ?_⟩
      by_cases e5 : H j = X m
      · have hx0 : X m ≠ 0 := by rw [← e5]; exact hj
        have := (h.x1 m i ho hx0).2
        rw [← e5, b] at this
        omega
      · rw [upd_other _ _ e5]; exact b
  · rw [upd_same]
    refine h.fr.congr (fun x hx => ?_)
    have a := h.fo x hx
    rw [upd_other _ _ (fun e : x = m => hfm (by rw [← e]; exact hx))]
    by_cases e : x = P m
    · have hp0 : P m ≠ 0 := by omega
      have := (h.p1 m i ho hp0).1
      rw [← e, a.2.2] at this; cases this
    · rw [upd_other _ _ e]
  · rcases List.mem_cons.1 hx with rfl | hx
    · exact ⟨hm.1, hm.2, upd_same _ _ _⟩
    · have a := h.fo x hx
      exact ⟨a.1, a.2.1, by rw [upd_other _ _ (fun e : x = m => hfm (by rw [← e]; exact hx))]; exact a.2.2⟩

/-- With nothing in it. -/
theorem ChI.start : ChI 1 (fun _ => 0) (fun _ => 0) 0 (fun _ => 0) (fun _ => none) (fun _ => 0) 0 [] :=
  ⟨by omega, fun m i h => (by cases h), fun m i h => (by cases h), fun m i h => (by cases h), fun m i h => (by cases h), fun m i h => (by cases h), fun i h => absurd rfl h, rfl, List.nodup_nil, fun m h => (by cases h)⟩
end
end Go.Proofs.YtlpjojegdnconaaDoor.Ca
