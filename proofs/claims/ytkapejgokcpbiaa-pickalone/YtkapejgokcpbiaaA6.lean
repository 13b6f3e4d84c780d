/- The heap, plain: the order of entries, the steps up and down, the table of spots. -/
import Derived.Lib.Hide
namespace Go.Proofs.Ytkapejgokcpbiaa
set_option linter.unusedVariables false

/-- A rank, plain. -/
structure Rk where
  d : Int
  b : Int
  g : Int
  i : Int
  deriving Inhabited, DecidableEq

/-- Does the first go ahead of the second? -/
def lessB (x y : Rk) : Bool :=
  if x.d ≠ y.d then decide (x.d < y.d) else if x.b ≠ y.b then decide (y.b < x.b) else if x.b = 1 ∧ x.g ≠ y.g then decide (y.g < x.g) else decide (x.i < y.i)
/-- .. by a kind: 2 is by time. -/
def ltK (k : Int) (x y : Rk) : Bool :=
  if k = 2 then decide (x.d < y.d) || (decide (x.d = y.d) && decide (x.i < y.i)) else lessB x y

theorem less_iff (x y : Rk) : lessB x y = true ↔ x.d < y.d ∨ (x.d = y.d ∧ (y.b < x.b ∨ (x.b = y.b ∧ ((x.b = 1 ∧ y.g < x.g) ∨ ((x.b ≠ 1 ∨ x.g = y.g) ∧ x.i < y.i))))) := by
  unfold lessB
  split
  · simp; omega
  · split
    · simp; omega
    · split
      · simp; omega
      · simp; omega
theorem lt_iff (k : Int) (x y : Rk) : ltK k x y = true ↔ if k = 2 then x.d < y.d ∨ (x.d = y.d ∧ x.i < y.i) else x.d < y.d ∨ (x.d = y.d ∧ (y.b < x.b ∨ (x.b = y.b ∧ ((x.b = 1 ∧ y.g < x.g) ∨ ((x.b ≠ 1 ∨ x.g = y.g) ∧ x.i < y.i))))) := by
  unfold ltK
  split
  · simp
  · exact less_iff x y

/-- An entry: a slot with its rank. -/
structure En where
  s : Nat
  r : Rk
  deriving Inhabited, DecidableEq
/-- Does the first come out sooner? -/
def ahead (k : Int) (a b : En) : Bool := if ltK k a.r b.r then true else if ltK k b.r a.r then false else decide (a.s < b.s)

theorem ahead_iff (k : Int) (a b : En) : ahead k a b = true ↔ ltK k a.r b.r = true ∨ (¬ ltK k b.r a.r = true ∧ a.s < b.s) := by
  unfold ahead
  cases h1 : ltK k a.r b.r <;> cases h2 : ltK k b.r a.r <;> simp
theorem ahead_irrefl (k : Int) (a : En) : ahead k a a = false := by
  cases h : ahead k a a
  · rfl
  · rw [ahead_iff, lt_iff] at h
    by_cases hk : k = 2
    · simp only [hk, if_true] at h; omega
    · simp only [hk, if_false] at h; omega
theorem ahead_trans (k : Int) (a b c : En) (h1 : ahead k a b = true) (h2 : ahead k b c = true) : ahead k a c = true := by
  rw [ahead_iff] at *
  simp only [lt_iff] at *
  by_cases hk : k = 2
  · simp only [hk, if_true] at *; omega
  · simp only [hk, if_false] at *; omega
theorem ahead_ntrans (k : Int) (a b c : En) (h1 : ahead k a b = false) (h2 : ahead k b c = false) : ahead k a c = false := by
  rw [← Bool.not_eq_true, ahead_iff] at *
  simp only [lt_iff] at *
  by_cases hk : k = 2
  · simp only [hk, if_true] at *; omega
  · simp only [hk, if_false] at *; omega
theorem ahead_total (k : Int) (a b : En) (h : a.s ≠ b.s) (h1 : ahead k a b = false) : ahead k b a = true := by
  rw [← Bool.not_eq_true] at h1
  rw [ahead_iff] at *
  simp only [lt_iff] at *
  by_cases hk : k = 2
  · simp only [hk, if_true] at *; omega
  · simp only [hk, if_false] at *; omega
theorem ahead_asymm (k : Int) (a b : En) (h : ahead k a b = true) : ahead k b a = false := by
  cases e : ahead k b a
  · rfl
  · have := ahead_trans k a b a h e; rw [ahead_irrefl] at this; cases this

/-! ### functions turned at one place -/
def upd {α : Type} (f : Nat → α) (m : Nat) (x : α) : Nat → α := fun s => if s = m then x else f s
section
variable {α : Type}
theorem upd_same (f : Nat → α) (m : Nat) (x : α) : upd f m x m = x := by simp [upd]
theorem upd_other (f : Nat → α) {m : Nat} (x : α) {s : Nat} (h : s ≠ m) : upd f m x s = f s := by simp [upd, h]
theorem upd_self (f : Nat → α) (m : Nat) : upd f m (f m) = f := by funext s; unfold upd; split <;> simp_all
end

/-! ### the tree -/
def par (k : Nat) : Nat := (k - 1) / 2
/-- In order, but at s, upwards. -/
structure UpI (k : Int) (T : Nat → En) (n s : Nat) : Prop where
  lt : s < n
  o1 : ∀ j, 0 < j → j < n → j ≠ s → par j ≠ s → ahead k (T j) (T (par j)) = false
  o2 : 0 < s → ∀ j, 0 < j → j < n → par j = s → ahead k (T j) (T (par s)) = false
/-- In order, but at s, downwards. -/
structure DnI (k : Int) (T : Nat → En) (n s : Nat) : Prop where
  lt : s < n
  o1 : ∀ j, 0 < j → j < n → par j ≠ s → ahead k (T j) (T (par j)) = false
  o2 : 0 < s → ∀ j, 0 < j → j < n → par j = s → ahead k (T j) (T (par s)) = false
/-- In order. -/
def Hp (k : Int) (T : Nat → En) (n : Nat) : Prop := ∀ j, 0 < j → j < n → ahead k (T j) (T (par j)) = false

/-- What stands at s and at a, changed. -/
def mv (T : Nat → En) (s a : Nat) : Nat → En := upd (upd T s (T a)) a (T s)
theorem mv_s {T : Nat → En} {s a : Nat} (h : s ≠ a) : mv T s a s = T a := by unfold mv; rw [upd_other _ _ h, upd_same]
theorem mv_a (T : Nat → En) (s a : Nat) : mv T s a a = T s := by unfold mv; rw [upd_same]
theorem mv_o {T : Nat → En} {s a j : Nat} (h1 : j ≠ s) (h2 : j ≠ a) : mv T s a j = T j := by unfold mv; rw [upd_other _ _ h2, upd_other _ _ h1]

theorem par_lt {s : Nat} (h : 0 < s) : par s < s := by unfold par; omega

theorem up_step {k : Int} {T : Nat → En} {n s : Nat} (h : UpI k T n s) (hs : 0 < s) (ha : ahead k (T s) (T (par s)) = true) : UpI k (mv T s (par s)) n (par s) := by
  have hp := par_lt hs
  have hl := h.lt
  refine ⟨by omega, fun j h0 hj h1 h2 => ?_, fun h0 j hj0 hj hjp => ?_⟩
  · have hjs : j ≠ s := fun e => h2 (by rw [e])
    rw [mv_o hjs h1]
    by_cases e : par j = s
    · rw [e, mv_s (by omega)]
      exact h.o2 hs j h0 hj e
    · rw [mv_o e h2]
      exact h.o1 j h0 hj hjs e
  · have hpp := par_lt h0
    rw [mv_o (j := par (par s)) (by omega) (by omega)]
    have hup : ahead k (T (par s)) (T (par (par s))) = false := h.o1 (par s) h0 (by omega) (by omega) (by omega)
    by_cases e : j = s
    · subst e; rw [mv_s (by omega)]; exact hup
    · have hja : j ≠ par s := fun e => by have := par_lt hj0; omega
      rw [mv_o e hja]
      have := h.o1 j hj0 hj e (by omega)
      rw [hjp] at this
      exact ahead_ntrans k _ _ _ this hup

theorem up_done {k : Int} {T : Nat → En} {n s : Nat} (h : UpI k T n s) (hs : s = 0 ∨ ahead k (T s) (T (par s)) = false) : DnI k T n s := by
  refine ⟨h.lt, fun j h0 hj h1 => ?_, h.o2⟩
  by_cases e : j = s
  · subst e
    rcases hs with hs | hs
    · omega
    · exact hs
  · exact h.o1 j h0 hj e h1

theorem dn_step {k : Int} {T : Nat → En} {n s b : Nat} (h : DnI k T n s) (hb0 : 0 < b) (hb : b < n) (hbp : par b = s)
    (hf : ∀ j, 0 < j → j < n → par j = s → j ≠ b → ahead k (T j) (T b) = false) (ha : ahead k (T b) (T s) = true) : DnI k (mv T s b) n b := by
  have hl := h.lt
  have hsb : s < b := by rw [← hbp]; exact par_lt hb0
  refine ⟨hb, fun j h0 hj h1 => ?_, fun h0 j hj0 hj hjp => ?_⟩
  · have hjp := par_lt h0
    by_cases e : par j = s
    · rw [e, mv_s (by omega)]
      by_cases e2 : j = b
      · subst e2; rw [mv_a]; exact ahead_asymm k _ _ ha
      · rw [mv_o (by omega) e2]; exact hf j h0 hj e e2
    · rw [mv_o (j := par j) e h1]
      by_cases e2 : j = s
      · subst e2; rw [mv_s (by omega)]
        exact h.o2 h0 b hb0 hb hbp
      · have e3 : j ≠ b := fun q => e (by rw [q]; exact hbp)
        rw [mv_o e2 e3]
        exact h.o1 j h0 hj e
  · have hjb : b < j := by rw [← hjp]; exact par_lt hj0
    rw [hbp, mv_s (by omega), mv_o (by omega) (by omega)]
    have := h.o1 j hj0 hj (by omega)
    rw [hjp] at this
    exact this

theorem dn_done {k : Int} {T : Nat → En} {n s : Nat} (h : DnI k T n s) (hs : ∀ j, 0 < j → j < n → par j = s → ahead k (T j) (T s) = false) : Hp k T n := fun j h0 hj => by
  by_cases e : par j = s
  · rw [e]; exact hs j h0 hj e
  · exact h.o1 j h0 hj e

/-- One put in the place of another, or behind all. -/
theorem up_start {k : Int} {T : Nat → En} {n s : Nat} (h : Hp k T n) (hs : s < n) (e : En) : UpI k (upd T s e) n s := by
  refine ⟨hs, fun j h0 hj h1 h2 => ?_, fun h0 j hj0 hj hjp => ?_⟩
  · rw [upd_other _ _ h1, upd_other _ _ h2]; exact h j h0 hj
  · have h1 := par_lt hj0
    have h2 := par_lt h0
    rw [upd_other _ _ (by omega), upd_other _ _ (by omega)]
    have a := h j hj0 hj
    rw [hjp] at a
    exact ahead_ntrans k _ _ _ a (h s h0 hs)
theorem up_start_new {k : Int} {T : Nat → En} {n : Nat} (h : Hp k T n) (e : En) : UpI k (upd T n e) (n + 1) n := by
  refine ⟨by omega, fun j h0 hj h1 h2 => ?_, fun h0 j hj0 hj hjp => ?_⟩
  · rw [upd_other _ _ h1, upd_other _ _ h2]; exact h j h0 (by omega)
  · have h1 := par_lt hj0; omega
theorem hp_less {k : Int} {T : Nat → En} {n m : Nat} (h : Hp k T n) (hm : m ≤ n) : Hp k T m := fun j h0 hj => h j h0 (by omega)

theorem hp_first {k : Int} {T : Nat → En} {n : Nat} (h : Hp k T n) : ∀ j, j < n → ahead k (T j) (T 0) = false := by
  intro j
  induction j using Nat.strongRecOn with
  | _ j ih =>
    intro hj
    rcases Nat.eq_zero_or_pos j with e | e
    · subst e; exact ahead_irrefl k _
    · have := par_lt e
      exact ahead_ntrans k _ _ _ (h j e hj) (ih (par j) this (by omega))

/-! ### the table of spots -/
/-- By slot where it stands, counted from 1; at the place s of the tree that is left open. -/
structure Idx (T : Nat → En) (n : Nat) (S : Nat → Nat) (L s : Nat) : Prop where
  lt : ∀ i, i < n → (T i).s < L
  at_ : ∀ i, i < n → i ≠ s → S (T i).s = i + 1
  inj : ∀ i, i < n → ∀ j, j < n → (T i).s = (T j).s → i = j
  out : ∀ x, x < L → (∀ i, i < n → (T i).s ≠ x) → S x = 0

theorem Idx.open_ {T : Nat → En} {n : Nat} {S : Nat → Nat} {L : Nat} (h : Idx T n S L n) (s : Nat) : Idx T n S L s := ⟨h.lt, fun i hi _ => h.at_ i hi (by omega), h.inj, h.out⟩
theorem Idx.fill {T : Nat → En} {n : Nat} {S : Nat → Nat} {L s : Nat} (h : Idx T n S L s) (hs : s < n) : Idx T n (upd S (T s).s (s + 1)) L n := by
  refine ⟨h.lt, fun i hi _ => ?_, h.inj, fun x hx ho => ?_⟩
  · by_cases e : i = s
    · subst e; rw [upd_same]
    · rw [upd_other _ _ (fun q => e (h.inj i hi s hs q))]; exact h.at_ i hi e
  · rw [upd_other _ _ (Ne.symm (ho s hs))]; exact h.out x hx ho
theorem Idx.mv {T : Nat → En} {n : Nat} {S : Nat → Nat} {L s a : Nat} (h : Idx T n S L s) (hs : s < n) (ha : a < n) (hsa : s ≠ a) : Idx (mv T s a) n (upd S (T a).s (s + 1)) L a := by
  have key : ∀ i, i < n → ∃ j, j < n ∧ Ytkapejgokcpbiaa.mv T s a i = T j ∧ (i = s → j = a) ∧ (i = a → j = s) ∧ (i ≠ s → i ≠ a → j = i) := fun i hi => by
    by_cases e1 : i = s
    · subst e1; exact ⟨a, ha, mv_s hsa, fun _ => rfl, fun q => absurd q hsa, fun q => absurd rfl q⟩
    · by_cases e2 : i = a
      · subst e2; exact ⟨s, hs, mv_a _ _ _, fun q => absurd q e1, fun _ => rfl, fun _ q => absurd rfl q⟩
      · exact ⟨i, hi, mv_o e1 e2, fun q => absurd q e1, fun q => absurd q e2, fun _ _ => rfl⟩
  refine ⟨fun i hi => ?_, fun i hi hia => ?_, fun i hi j hj hij => ?_, fun x hx ho => ?_⟩
  · obtain ⟨j, hj, e, _⟩ := key i hi
    rw [e]; exact h.lt j hj
  · by_cases e1 : i = s
    · subst e1; rw [mv_s hsa, upd_same]
    · rw [mv_o e1 hia, upd_other _ _ (fun q => hia (h.inj i hi a ha q))]
      exact h.at_ i hi e1
  · obtain ⟨i', hi', e1, x1, x2, x3⟩ := key i hi
    obtain ⟨j', hj', e2, y1, y2, y3⟩ := key j hj
    rw [e1, e2] at hij
    have := h.inj i' hi' j' hj' hij
    by_cases p1 : i = s <;> by_cases p2 : i = a <;> by_cases q1 : j = s <;> by_cases q2 : j = a <;> simp_all
  · have ho' : ∀ i, i < n → (T i).s ≠ x := fun i hi => by
      by_cases e1 : i = s
      · subst e1; have := ho a ha; rwa [mv_a] at this
      · by_cases e2 : i = a
        · subst e2; have := ho s hs; rwa [mv_s hsa] at this
        · have := ho i hi; rwa [mv_o e1 e2] at this
    rw [upd_other _ _ (Ne.symm (ho' a ha))]
    exact h.out x hx ho'

/-- The same entries. -/
def Same (n : Nat) (T T' : Nat → En) : Prop := ∀ x, (∃ i, i < n ∧ T' i = x) ↔ ∃ i, i < n ∧ T i = x
theorem Same.refl (n : Nat) (T : Nat → En) : Same n T T := fun _ => Iff.rfl
theorem Same.trans {n : Nat} {A B C : Nat → En} (h : Same n A B) (k : Same n B C) : Same n A C := fun x => (k x).trans (h x)
theorem same_mv {n : Nat} {T : Nat → En} {s a : Nat} (hs : s < n) (ha : a < n) (hsa : s ≠ a) : Same n T (mv T s a) := fun x => by
  constructor
  · rintro ⟨i, hi, e⟩
    by_cases e1 : i = s
    · subst e1; rw [mv_s hsa] at e; exact ⟨a, ha, e⟩
    · by_cases e2 : i = a
      · subst e2; rw [mv_a] at e; exact ⟨s, hs, e⟩
      · rw [mv_o e1 e2] at e; exact ⟨i, hi, e⟩
  · rintro ⟨i, hi, e⟩
    by_cases e1 : i = s
    · subst e1; exact ⟨a, ha, by rw [mv_a]; exact e⟩
    · by_cases e2 : i = a
      · subst e2; exact ⟨s, hs, by rw [mv_s hsa]; exact e⟩
      · exact ⟨i, hi, by rw [mv_o e1 e2]; exact e⟩

/-- No more different numbers below L than L. -/
theorem pigeon : ∀ (L n : Nat) (f : Nat → Nat), (∀ i, i < n → f i < L) → (∀ i, i < n → ∀ j, j < n → f i = f j → i = j) → n ≤ L
  | 0, n, f, h, _ => by
    rcases Nat.eq_zero_or_pos n with e | e
    · omega
    · have := h 0 e; omega
  | L + 1, n, f, h, inj => by
    by_cases e : ∃ i, i < n ∧ f i = L
    · obtain ⟨i0, hi0, e0⟩ := e
      have := pigeon L (n - 1) (fun j => if j < i0 then f j else f (j + 1)) (fun j hj => by
          split
          · rename_i q
            have := h j (by omega)
            have : f j ≠ L := fun q2 => by have := inj j (by omega) i0 hi0 (by omega); omega
            omega
          · rename_i q
            have := h (j + 1) (by omega)
            have : f (j + 1) ≠ L := fun q2 => by have := inj (j + 1) (by omega) i0 hi0 (by omega); omega
            omega)
        (fun a ha b hb q => by
          split at q <;> split at q
          · exact inj a (by omega) b (by omega) q
          · have := inj a (by omega) (b + 1) (by omega) q; omega
          · have := inj (a + 1) (by omega) b (by omega) q; omega
          · have := inj (a + 1) (by omega) (b + 1) (by omega) q; omega)
      omega
    · exact Nat.le_trans (pigeon L n f (fun i hi => by
        have := h i hi
        have : f i ≠ L := fun q => e ⟨i, hi, q⟩
        omega) inj) (by omega)
theorem Idx.le {T : Nat → En} {n : Nat} {S : Nat → Nat} {L s : Nat} (h : Idx T n S L s) : n ≤ L := pigeon L n (fun i => (T i).s) h.lt h.inj

/-! ### what is in it -/
/-- The ranks by slot. -/
def Has (T : Nat → En) (n : Nat) (M : Nat → Option Rk) : Prop := ∀ s r, M s = some r ↔ ∃ i, i < n ∧ T i = ⟨s, r⟩
theorem Has.same {T T' : Nat → En} {n : Nat} {M : Nat → Option Rk} (h : Has T n M) (e : Same n T T') : Has T' n M := fun s r => (h s r).trans (e ⟨s, r⟩).symm
theorem Has.at_ {T : Nat → En} {n : Nat} {M : Nat → Option Rk} (h : Has T n M) {i : Nat} (hi : i < n) : M (T i).s = some (T i).r := (h _ _).2 ⟨i, hi, rfl⟩
theorem Has.none {T : Nat → En} {n : Nat} {M : Nat → Option Rk} (h : Has T n M) {s : Nat} : M s = none ↔ ∀ i, i < n → (T i).s ≠ s := by
  constructor
  · intro e i hi q
    have := h.at_ hi
    rw [q, e] at this; cases this
  · intro e
    cases q : M s
    · rfl
    · obtain ⟨i, hi, x⟩ := (h _ _).1 q
      exact absurd (by rw [x]) (e i hi)
theorem Has.put {T : Nat → En} {n : Nat} {S : Nat → Nat} {L s : Nat} {M : Nat → Option Rk} (h : Has T n M) (x : Idx T n S L s) {i : Nat} (hi : i < n) (r : Rk) : Has (upd T i ⟨(T i).s, r⟩) n (upd M (T i).s (some r)) := fun t q => by
  by_cases e : t = (T i).s
  · subst e
    rw [upd_same]
    constructor
    · intro a; obtain rfl := Option.some.inj a; exact ⟨i, hi, upd_same _ _ _⟩
    · rintro ⟨j, hj, a⟩
      by_cases e : j = i
      · subst e; rw [upd_same] at a; cases a; rfl
      · rw [upd_other _ _ e] at a
        exact absurd (x.inj j hj i hi (by rw [a])) e
  · rw [upd_other _ _ e, h t q]
    constructor
    · rintro ⟨j, hj, a⟩
      exact ⟨j, hj, by rw [upd_other _ _ (fun e2 => e (by rw [← e2, a]))]; exact a⟩
    · rintro ⟨j, hj, a⟩
      by_cases e2 : j = i
      · subst e2; rw [upd_same] at a; cases a; exact absurd rfl e
      · rw [upd_other _ _ e2] at a; exact ⟨j, hj, a⟩
theorem Has.new {T : Nat → En} {n : Nat} {M : Nat → Option Rk} (h : Has T n M) {s : Nat} (hs : M s = Option.none) (r : Rk) : Has (upd T n ⟨s, r⟩) (n + 1) (upd M s (some r)) := fun t q => by
  by_cases e : t = s
  · subst e
    rw [upd_same]
    constructor
    · intro a; obtain rfl := Option.some.inj a; exact ⟨n, by omega, upd_same _ _ _⟩
    · rintro ⟨j, hj, a⟩
      by_cases e : j = n
      · subst e; rw [upd_same] at a; cases a; rfl
      · rw [upd_other _ _ e] at a
        exact absurd (by rw [a]) (h.none.1 hs j (by omega))
  · rw [upd_other _ _ e, h t q]
    constructor
    · rintro ⟨j, hj, a⟩
      exact ⟨j, by omega, by rw [upd_other _ _ (by omega)]; exact a⟩
    · rintro ⟨j, hj, a⟩
      by_cases e2 : j = n
      · subst e2; rw [upd_same] at a; cases a; exact absurd rfl e
      · rw [upd_other _ _ e2] at a; exact ⟨j, by omega, a⟩
/-- The last one in the place of one that goes. -/
theorem Has.drop {T : Nat → En} {n : Nat} {S : Nat → Nat} {L s : Nat} {M : Nat → Option Rk} (h : Has T (n + 1) M) (x : Idx T (n + 1) S L s) {i : Nat} (hi : i < n + 1) : Has (upd T i (T n)) n (upd M (T i).s Option.none) := fun t q => by
  by_cases e : t = (T i).s
  · subst e
    rw [upd_same]
    constructor
    · intro a; cases a
    · rintro ⟨j, hj, a⟩
      by_cases e : j = i
      · subst e; rw [upd_same] at a
        have := x.inj n (by omega) j (by omega) (by rw [a]); omega
      · rw [upd_other _ _ e] at a
        exact absurd (x.inj j (by omega) i hi (by rw [a])) e
  · rw [upd_other _ _ e, h t q]
    constructor
    · rintro ⟨j, hj, a⟩
      by_cases e2 : j = n
      · subst e2
        by_cases e3 : i = j
        · subst e3; exact absurd (by rw [a]) e
        · exact ⟨i, by omega, by rw [upd_same]; exact a⟩
      · exact ⟨j, by omega, by rw [upd_other _ _ (fun e3 => e (by rw [← e3, a]))]; exact a⟩
    · rintro ⟨j, hj, a⟩
      by_cases e2 : j = i
      · subst e2; rw [upd_same] at a; exact ⟨n, by omega, a⟩
      · rw [upd_other _ _ e2] at a; exact ⟨j, by omega, a⟩

theorem Idx.put {T : Nat → En} {n : Nat} {S : Nat → Nat} {L : Nat} (h : Idx T n S L n) {i : Nat} (hi : i < n) (r : Rk) : Idx (upd T i ⟨(T i).s, r⟩) n S L n := by
  have e : ∀ j, (upd T i ⟨(T i).s, r⟩ j).s = (T j).s := fun j => by
    by_cases q : j = i
    · subst q; rw [upd_same]
    · rw [upd_other _ _ q]
  exact ⟨fun j hj => by rw [e]; exact h.lt j hj, fun j hj q => by rw [e]; exact h.at_ j hj q, fun a ha b hb q => by rw [e, e] at q; exact h.inj a ha b hb q, fun y hy q => h.out y hy (fun j hj => by have := q j hj; rwa [e] at this)⟩
/-- One more, its spot not told yet. -/
theorem Idx.new {T : Nat → En} {n : Nat} {S : Nat → Nat} {L : Nat} (h : Idx T n S L n) {s : Nat} (r : Rk) (hs : s < L) (ho : ∀ i, i < n → (T i).s ≠ s) : Idx (upd T n ⟨s, r⟩) (n + 1) S L n := by
  have e : ∀ j, j < n → upd T n ⟨s, r⟩ j = T j := fun j hj => upd_other _ _ (by omega)
  refine ⟨fun j hj => ?_, fun j hj q => ?_, fun a ha b hb q => ?_, fun y hy q => ?_⟩
  · by_cases q : j = n
    · subst q; rw [upd_same]; exact hs
    · rw [e j (by omega)]; exact h.lt j (by omega)
  · rw [e j (by omega)]; exact h.at_ j (by omega) q
  · by_cases q1 : a = n <;> by_cases q2 : b = n
    · omega
    · rw [q1, upd_same, e b (by omega)] at q; exact absurd q.symm (ho b (by omega))
    · rw [q2, upd_same, e a (by omega)] at q; exact absurd q (ho a (by omega))
    · rw [e a (by omega), e b (by omega)] at q; exact h.inj a (by omega) b (by omega) q
  · exact h.out y hy (fun j hj => by have := q j (by omega); rwa [e j hj] at this)
/-- More room for slots. -/
theorem Idx.more {T : Nat → En} {n : Nat} {S : Nat → Nat} {L L' s : Nat} (h : Idx T n S L s) (hL : L ≤ L') (h0 : ∀ x, L ≤ x → x < L' → S x = 0) : Idx T n S L' s :=
  ⟨fun i hi => Nat.lt_of_lt_of_le (h.lt i hi) hL, h.at_, h.inj, fun x hx ho => by
    rcases Nat.lt_or_ge x L with q | q
    · exact h.out x q ho
    · exact h0 x q hx⟩
theorem Idx.congr {T T' : Nat → En} {n : Nat} {S : Nat → Nat} {L s : Nat} (h : Idx T n S L s) (e : ∀ i, i < n → T' i = T i) : Idx T' n S L s :=
  ⟨fun i hi => by rw [e i hi]; exact h.lt i hi, fun i hi q => by rw [e i hi]; exact h.at_ i hi q, fun i hi j hj q => by rw [e i hi, e j hj] at q; exact h.inj i hi j hj q, fun x hx q => h.out x hx (fun i hi => by have := q i hi; rwa [e i hi] at this)⟩
/-- One gone: its spot told no more; the last one in its place, whose spot is not told yet. -/
theorem Idx.drop {T : Nat → En} {n : Nat} {S : Nat → Nat} {L : Nat} (h : Idx T (n + 1) S L (n + 1)) {i : Nat} (hi : i < n + 1) : Idx (upd T i (T n)) n (upd S (T i).s 0) L i := by
  have key : ∀ j, j < n → ∃ m, m < n + 1 ∧ m ≠ i ∧ upd T i (T n) j = T m ∧ (j = i → m = n) ∧ (j ≠ i → m = j) := fun j hj => by
    by_cases q : j = i
    · subst q; exact ⟨n, by omega, by omega, upd_same _ _ _, fun _ => rfl, fun q => absurd rfl q⟩
    · exact ⟨j, by omega, q, upd_other _ _ q, fun e => absurd e q, fun _ => rfl⟩
  refine ⟨fun j hj => ?_, fun j hj q => ?_, fun a ha b hb q => ?_, fun y hy q => ?_⟩
  · obtain ⟨m, hm, _, e, _⟩ := key j hj
    rw [e]; exact h.lt m hm
  · rw [upd_other _ _ q, upd_other _ _ (fun e => q (h.inj j (by omega) i hi e))]
    exact h.at_ j (by omega) (by omega)
  · obtain ⟨m, hm, hmi, e, x1, x2⟩ := key a ha
    obtain ⟨m', hm', hmi', e', y1, y2⟩ := key b hb
    rw [e, e'] at q
    have := h.inj m hm m' hm' q
    by_cases p1 : a = i <;> by_cases p2 : b = i
    · omega
    · have := x1 p1; have := y2 p2; omega
    · have := x2 p1; have := y1 p2; omega
    · have := x2 p1; have := y2 p2; omega
  · by_cases e : y = (T i).s
    · subst e; rw [upd_same]
    · rw [upd_other _ _ e]
      refine h.out y hy (fun j hj => ?_)
      by_cases q1 : j = i
      · subst q1; exact Ne.symm e
      · by_cases q2 : j = n
        · subst q2
          have := q i (by omega)
          rwa [upd_same] at this
        · have := q j (by omega)
          rwa [upd_other _ _ q1] at this
end Go.Proofs.Ytkapejgokcpbiaa
