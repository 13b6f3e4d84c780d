/- The heap, plain: the order of entries, the steps up and down, the table of spots. Worlds that keep all but some blocks; contracts of Less, RankLess, Made, of the heap's own less and ahead. The heap in memory; contracts of ahead, set. The heap in memory: rows that the call owns, the heap's three blocks; contract of set. The heap: contracts of firstBelow, up. -/
import Derived.Lib.Hide
import Derived.Test.YtlpjojegdnconaaDoorChecked
import Derived.WalkKit
import Derived.StillTailTactics
import Derived.IntWalk
import Derived.BigQuiet
import Derived.Deep.LoopGhost
import Derived.Deep.DeepCutAuto
import Derived.Laws.OwnMore
namespace Go.Proofs.YtlpjojegdnconaaDoor.Ca
set_option linter.unusedVariables false

/-- A rank, plain. -/
structure Rk where
  d : Int
  b : Int
  g : Int
  i : Int
  deriving Inhabited, DecidableEq

/-- Does the first go ahead of the second? -/
def lessB (x y : Rk) : Bool :=
  if x.d ≠ y.d then decide (x.d < y.d) else if x.b ≠ y.b then decide (y.b < x.b) else if x.b = 1 ∧ x.g ≠ y.g then decide (y.g < x.g) else decide (x.i < y.i)
/-- .. by a kind: 2 is by time. -/
def ltK (k : Int) (x y : Rk) : Bool :=
  if k = 2 then decide (x.d < y.d) || (decide (x.d = y.d) && decide (x.i < y.i)) else lessB x y

theorem less_iff (x y : Rk) : lessB x y = true ↔ x.d < y.d ∨ (x.d = y.d ∧ (y.b < x.b ∨ (x.b = y.b ∧ ((x.b = 1 ∧ y.g < x.g) ∨ ((x.b ≠ 1 ∨ x.g = y.g) ∧ x.i < y.i))))) := by
  unfold lessB
  split
  · simp; omega
  · split
    · simp; omega
    · split
      · simp; omega
      · simp; omega
theorem lt_iff (k : Int) (x y : Rk) : ltK k x y = true ↔ if k = 2 then x.d < y.d ∨ (x.d = y.d ∧ x.i < y.i) else x.d < y.d ∨ (x.d = y.d ∧ (y.b < x.b ∨ (x.b = y.b ∧ ((x.b = 1 ∧ y.g < x.g) ∨ ((x.b ≠ 1 ∨ x.g = y.g) ∧ x.i < y.i))))) := by
  unfold ltK
  split
  · simp
  · exact less_iff x y

/-- An entry: a slot with its rank. -/
structure En where
  s : Nat
  r : Rk
  deriving Inhabited, DecidableEq
/-- Does the first come out sooner? -/
def ahead (k : Int) (a b : En) : Bool := if ltK k a.r b.r then true else if ltK k b.r a.r then false else decide (a.s < b.s)

theorem ahead_iff (k : Int) (a b : En) : ahead k a b = true ↔ ltK k a.r b.r = true ∨ (¬ ltK k b.r a.r = true ∧ a.s < b.s) := by
  unfold ahead
  cases h1 : ltK k a.r b.r <;> cases h2 : ltK k b.r a.r <;> simp
theorem ahead_irrefl (k : Int) (a : En) : ahead k a a = false := by
  cases h : ahead k a a
  · rfl
  · rw [ahead_iff, lt_iff] at h
    by_cases hk : k = 2
    · simp only [hk, if_true] at h; omega
    · simp only [hk, if_false] at h; omega
theorem ahead_trans (k : Int) (a b c : En) (h1 : ahead k a b = true) (h2 : ahead k b c = true) : ahead k a c = true := by
  rw [ahead_iff] at *
  simp only [lt_iff] at *
  by_cases hk : k = 2
  · simp only [hk, if_true] at *; omega
  · simp only [hk, if_false] at *; omega
theorem ahead_ntrans (k : Int) (a b c : En) (h1 : ahead k a b = false) (h2 : ahead k b c = false) : ahead k a c = false := by
  rw [← Bool.not_eq_true, ahead_iff] at *
  simp only [lt_iff] at *
  by_cases hk : k = 2
  · simp only [hk, if_true] at *; omega
  · simp only [hk, if_false] at *; omega
theorem ahead_total (k : Int) (a b : En) (h : a.s ≠ b.s) (h1 : ahead k a b = false) : ahead k b a = true := by
  rw [← Bool.not_eq_true] at h1
  rw [ahead_iff] at *
  simp only [lt_iff] at *
  by_cases hk : k = 2
  · simp only [hk, if_true] at *; omega
  · simp only [hk, if_false] at *; omega
theorem ahead_asymm (k : Int) (a b : En) (h : ahead k a b = true) : ahead k b a = false := by
  cases e : ahead k b a
  · rfl
  · have := ahead_trans k a b a h e; rw [ahead_irrefl] at this; cases this

/-! ### functions turned at one place -/
def upd {α : Type} (f : Nat → α) (m : Nat) (x : α) : Nat → α := fun s => if s = m then x else f s
section
variable {α : Type}
theorem upd_same (f : Nat → α) (m : Nat) (x : α) : upd f m x m = x := by simp [upd]
theorem upd_other (f : Nat → α) {m : Nat} (x : α) {s : Nat} (h : s ≠ m) : upd f m x s = f s := by simp [upd, h]
theorem upd_self (f : Nat → α) (m : Nat) : upd f m (f m) = f := by funext s; unfold upd; split <;> simp_all
end

/-! ### the tree -/
def par (k : Nat) : Nat := (k - 1) / 2
/-- In order, but at s, upwards. -/
structure UpI (k : Int) (T : Nat → En) (n s : Nat) : Prop where
  lt : s < n
  o1 : ∀ j, 0 < j → j < n → j ≠ s → par j ≠ s → ahead k (T j) (T (par j)) = false
  o2 : 0 < s → ∀ j, 0 < j → j < n → par j = s → ahead k (T j) (T (par s)) = false
/-- In order, but at s, downwards. -/
structure DnI (k : Int) (T : Nat → En) (n s : Nat) : Prop where
  lt : s < n
  o1 : ∀ j, 0 < j → j < n → par j ≠ s → ahead k (T j) (T (par j)) = false
  o2 : 0 < s → ∀ j, 0 < j → j < n → par j = s → ahead k (T j) (T (par s)) = false
/-- In order. -/
def Hp (k : Int) (T : Nat → En) (n : Nat) : Prop := ∀ j, 0 < j → j < n → ahead k (T j) (T (par j)) = false

/-- What stands at s and at a, changed. -/
def mv (T : Nat → En) (s a : Nat) : Nat → En := upd (upd T s (T a)) a (T s)
theorem mv_s {T : Nat → En} {s a : Nat} (h : s ≠ a) : mv T s a s = T a := by unfold mv; rw [upd_other _ _ h, upd_same]
theorem mv_a (T : Nat → En) (s a : Nat) : mv T s a a = T s := by unfold mv; rw [upd_same]
theorem mv_o {T : Nat → En} {s a j : Nat} (h1 : j ≠ s) (h2 : j ≠ a) : mv T s a j = T j := by unfold mv; rw [upd_other _ _ h2, upd_other _ _ h1]

theorem par_lt {s : Nat} (h : 0 < s) : par s < s := by unfold par; omega

theorem up_step {k : Int} {T : Nat → En} {n s : Nat} (h : UpI k T n s) (hs : 0 < s) (ha : ahead k (T s) (T (par s)) = true) : UpI k (mv T s (par s)) n (par s) := by
  have hp := par_lt hs
  have hl := h.lt
  refine ⟨by omega, fun j h0 hj h1 h2 => ?_, fun h0 j hj0 hj hjp => ?_⟩
  · have hjs : j ≠ s := fun e => h2 (by rw [e])
    rw [mv_o hjs h1]
    by_cases e : par j = s
    · rw [e, mv_s (by omega)]
      exact h.o2 hs j h0 hj e
    · rw [mv_o e h2]
      exact h.o1 j h0 hj hjs e
  · have hpp := par_lt h0
    rw [mv_o (j := par (par s)) (by omega) (by omega)]
    have hup : ahead k (T (par s)) (T (par (par s))) = false := h.o1 (par s) h0 (by omega) (by omega) (by omega)
    by_cases e : j = s
    · subst e; rw [mv_s (by omega)]; exact hup
    · have hja : j ≠ par s := fun e => by have := par_lt hj0; omega
      rw [mv_o e hja]
      have := h.o1 j hj0 hj e (by omega)
      rw [hjp] at this
      exact ahead_ntrans k _ _ _ this hup

theorem up_done {k : Int} {T : Nat → En} {n s : Nat} (h : UpI k T n s) (hs : s = 0 ∨ ahead k (T s) (T (par s)) = false) : DnI k T n s := by
  refine ⟨h.lt, fun j h0 hj h1 => ?_, h.o2⟩
  by_cases e : j = s
  · subst e
    rcases hs with hs | hs
    · omega
    · exact hs
  · exact h.o1 j h0 hj e h1

theorem dn_step {k : Int} {T : Nat → En} {n s b : Nat} (h : DnI k T n s) (hb0 : 0 < b) (hb : b < n) (hbp : par b = s)
    (hf : ∀ j, 0 < j → j < n → par j = s → j ≠ b → ahead k (T j) (T b) = false) (ha : ahead k (T b) (T s) = true) : DnI k (mv T s b) n b := by
  have hl := h.lt
  have hsb : s < b := by rw [← hbp]; exact par_lt hb0
  refine ⟨hb, fun j h0 hj h1 => ?_, fun h0 j hj0 hj hjp => ?_⟩
  · have hjp := par_lt h0
    by_cases e : par j = s
    · rw [e, mv_s (by omega)]
      by_cases e2 : j = b
      · subst e2; rw [mv_a]; exact ahead_asymm k _ _ ha
      · rw [mv_o (by omega) e2]; exact hf j h0 hj e e2
    · rw [mv_o (j := par j) e h1]
      by_cases e2 : j = s
      · subst e2; rw [mv_s (by omega)]
        exact h.o2 h0 b hb0 hb hbp
      · have e3 : j ≠ b := fun q => e (by rw [q]; exact hbp)
        rw [mv_o e2 e3]
        exact h.o1 j h0 hj e
  · have hjb : b < j := by rw [← hjp]; exact par_lt hj0
    rw [hbp, mv_s (by omega), mv_o (by omega) (by omega)]
    have := h.o1 j hj0 hj (by omega)
    rw [hjp] at this
    exact this

theorem dn_done {k : Int} {T : Nat → En} {n s : Nat} (h : DnI k T n s) (hs : ∀ j, 0 < j → j < n → par j = s → ahead k (T j) (T s) = false) : Hp k T n := fun j h0 hj => by
  by_cases e : par j = s
  · rw [e]; exact hs j h0 hj e
  · exact h.o1 j h0 hj e

/-- One put in the place of another, or behind all. -/
theorem up_start {k : Int} {T : Nat → En} {n s : Nat} (h : Hp k T n) (hs : s < n) (e : En) : UpI k (upd T s e) n s := by
  refine ⟨hs, fun j h0 hj h1 h2 => ?_, fun h0 j hj0 hj hjp => ?_⟩
  · rw [upd_other _ _ h1, upd_other _ _ h2]; exact h j h0 hj
  · have h1 := par_lt hj0
    have h2 := par_lt h0
    rw [upd_other _ _ (by omega), upd_other _ _ (by omega)]
    have a := h j hj0 hj
    rw [hjp] at a
    exact ahead_ntrans k _ _ _ a (h s h0 hs)
theorem up_start_new {k : Int} {T : Nat → En} {n : Nat} (h : Hp k T n) (e : En) : UpI k (upd T n e) (n + 1) n := by
  refine ⟨by omega, fun j h0 hj h1 h2 => ?_, fun h0 j hj0 hj hjp => ?_⟩
  · rw [upd_other _ _ h1, upd_other _ _ h2]; exact h j h0 (by omega)
  · have h1 := par_lt hj0; omega
theorem hp_less {k : Int} {T : Nat → En} {n m : Nat} (h : Hp k T n) (hm : m ≤ n) : Hp k T m := fun j h0 hj => h j h0 (by omega)

theorem hp_first {k : Int} {T : Nat → En} {n : Nat} (h : Hp k T n) : ∀ j, j < n → ahead k (T j) (T 0) = false := by
  intro j
  induction j using Nat.strongRecOn with
  | _ j ih =>
    intro hj
    rcases Nat.eq_zero_or_pos j with e | e
    · subst e; exact ahead_irrefl k _
    · have := par_lt e
      exact ahead_ntrans k _ _ _ (h j e hj) (ih (par j) this (by omega))

/-! ### the table of spots -/
/-- By slot where it stands, counted from 1; at the place s of the tree that is left open. -/
structure Idx (T : Nat → En) (n : Nat) (S : Nat → Nat) (L s : Nat) : Prop where
  lt : ∀ i, i < n → (T i).s < L
  at_ : ∀ i, i < n → i ≠ s → S (T i).s = i + 1
  inj : ∀ i, i < n → ∀ j, j < n → (T i).s = (T j).s → i = j
  out : ∀ x, x < L → (∀ i, i < n → (T i).s ≠ x) → S x = 0

theorem Idx.open_ {T : Nat → En} {n : Nat} {S : Nat → Nat} {L : Nat} (h : Idx T n S L n) (s : Nat) : Idx T n S L s := ⟨h.lt, fun i hi _ => h.at_ i hi (by omega), h.inj, h.out⟩
theorem Idx.fill {T : Nat → En} {n : Nat} {S : Nat → Nat} {L s : Nat} (h : Idx T n S L s) (hs : s < n) : Idx T n (upd S (T s).s (s + 1)) L n := by
  refine ⟨h.lt, fun i hi _ => ?_, h.inj, fun x hx ho => ?_⟩
  · by_cases e : i = s
    · subst e; rw [upd_same]
    · rw [upd_other _ _ (fun q => e (h.inj i hi s hs q))]; exact h.at_ i hi e
  · rw [upd_other _ _ (Ne.symm (ho s hs))]; exact h.out x hx ho
theorem Idx.mv {T : Nat → En} {n : Nat} {S : Nat → Nat} {L s a : Nat} (h : Idx T n S L s) (hs : s < n) (ha : a < n) (hsa : s ≠ a) : Idx (mv T s a) n (upd S (T a).s (s + 1)) L a := by
  have key : ∀ i, i < n → ∃ j, j < n ∧ YtlpjojegdnconaaDoor.Ca.mv T s a i = T j ∧ (i = s → j = a) ∧ (i = a → j = s) ∧ (i ≠ s → i ≠ a → j = i) := fun i hi => by
    by_cases e1 : i = s
    · subst e1; exact ⟨a, ha, mv_s hsa, fun _ => rfl, fun q => absurd q hsa, fun q => absurd rfl q⟩
    · by_cases e2 : i = a
      · subst e2; exact ⟨s, hs, mv_a _ _ _, fun q => absurd q e1, fun _ => rfl, fun _ q => absurd rfl q⟩
      · exact ⟨i, hi, mv_o e1 e2, fun q => absurd q e1, fun q => absurd q e2, fun _ _ => rfl⟩
  refine ⟨fun i hi => ?_, fun i hi hia => ?_, fun i hi j hj hij => ?_, fun x hx ho => ?_⟩
  · obtain ⟨j, hj, e, _⟩ := key i hi
    rw [e]; exact h.lt j hj
  · by_cases e1 : i = s
    · subst e1; rw [mv_s hsa, upd_same]
    · rw [mv_o e1 hia, upd_other _ _ (fun q => hia (h.inj i hi a ha q))]
      exact h.at_ i hi e1
  · obtain ⟨i', hi', e1, x1, x2, x3⟩ := key i hi
    obtain ⟨j', hj', e2, y1, y2, y3⟩ := key j hj
    rw [e1, e2] at hij
    have := h.inj i' hi' j' hj' hij
    by_cases p1 : i = s <;> by_cases p2 : i = a <;> by_cases q1 : j = s <;> by_cases q2 : j = a <;> simp_all
  · have ho' : ∀ i, i < n → (T i).s ≠ x := fun i hi => by
      by_cases e1 : i = s
      · subst e1; have := ho a ha; rwa [mv_a] at this
      · by_cases e2 : i = a
        · subst e2; have := ho s hs; rwa [mv_s hsa] at this
        · have := ho i hi; rwa [mv_o e1 e2] at this
    rw [upd_other _ _ (Ne.symm (ho' a ha))]
    exact h.out x hx ho'

/-- The same entries. -/
def Same (n : Nat) (T T' : Nat → En) : Prop := ∀ x, (∃ i, i < n ∧ T' i = x) ↔ ∃ i, i < n ∧ T i = x
theorem Same.refl (n : Nat) (T : Nat → En) : Same n T T := fun _ => Iff.rfl
theorem Same.trans {n : Nat} {A B C : Nat → En} (h : Same n A B) (k : Same n B C) : Same n A C := fun x => (k x).trans (h x)
theorem same_mv {n : Nat} {T : Nat → En} {s a : Nat} (hs : s < n) (ha : a < n) (hsa : s ≠ a) : Same n T (mv T s a) := fun x => by
  constructor
  · rintro ⟨i, hi, e⟩
    by_cases e1 : i = s
    · subst e1; rw [mv_s hsa] at e; exact ⟨a, ha, e⟩
    · by_cases e2 : i = a
      · subst e2; rw [mv_a] at e; exact ⟨s, hs, e⟩
      · rw [mv_o e1 e2] at e; exact ⟨i, hi, e⟩
  · rintro ⟨i, hi, e⟩
    by_cases e1 : i = s
    · subst e1; exact ⟨a, ha, by rw [mv_a]; exact e⟩
    · by_cases e2 : i = a
      · subst e2; exact ⟨s, hs, by rw [mv_s hsa]; exact e⟩
      · exact ⟨i, hi, by rw [mv_o e1 e2]; exact e⟩

/-- No more different numbers below L than L. -/
theorem pigeon : ∀ (L n : Nat) (f : Nat → Nat), (∀ i, i < n → f i < L) → (∀ i, i < n → ∀ j, j < n → f i = f j → i = j) → n ≤ L
  | 0, n, f, h, _ => by
    rcases Nat.eq_zero_or_pos n with e | e
    · omega
    · have := h 0 e; omega
  | L + 1, n, f, h, inj => by
    by_cases e : ∃ i, i < n ∧ f i = L
    · obtain ⟨i0, hi0, e0⟩ := e
      have := pigeon L (n - 1) (fun j => if j < i0 then f j else f (j + 1)) (fun j hj => by
          split
          · rename_i q
            have := h j (by omega)
            have : f j ≠ L := fun q2 => by have := inj j (by omega) i0 hi0 (by omega); omega
            omega
          · rename_i q
            have := h (j + 1) (by omega)
            have : f (j + 1) ≠ L := fun q2 => by have := inj (j + 1) (by omega) i0 hi0 (by omega); omega
            omega)
        (fun a ha b hb q => by
          split at q <;> split at q
          · exact inj a (by omega) b (by omega) q
          · have := inj a (by omega) (b + 1) (by omega) q; omega
          · have := inj (a + 1) (by omega) b (by omega) q; omega
          · have := inj (a + 1) (by omega) (b + 1) (by omega) q; omega)
      omega
    · exact Nat.le_trans (pigeon L n f (fun i hi => by
        have := h i hi
        have : f i ≠ L := fun q => e ⟨i, hi, q⟩
        omega) inj) (by omega)
theorem Idx.le {T : Nat → En} {n : Nat} {S : Nat → Nat} {L s : Nat} (h : Idx T n S L s) : n ≤ L := pigeon L n (fun i => (T i).s) h.lt h.inj

/-! ### what is in it -/
/-- The ranks by slot. -/
def Has (T : Nat → En) (n : Nat) (M : Nat → Option Rk) : Prop := ∀ s r, M s = some r ↔ ∃ i, i < n ∧ T i = ⟨s, r⟩
theorem Has.same {T T' : Nat → En} {n : Nat} {M : Nat → Option Rk} (h : Has T n M) (e : Same n T T') : Has T' n M := fun s r => (h s r).trans (e ⟨s, r⟩).symm
theorem Has.at_ {T : Nat → En} {n : Nat} {M : Nat → Option Rk} (h : Has T n M) {i : Nat} (hi : i < n) : M (T i).s = some (T i).r := (h _ _).2 ⟨i, hi, rfl⟩
theorem Has.none {T : Nat → En} {n : Nat} {M : Nat → Option Rk} (h : Has T n M) {s : Nat} : M s = none ↔ ∀ i, i < n → (T i).s ≠ s := by
  constructor
  · intro e i hi q
    have := h.at_ hi
    rw [q, e] at this; cases this
  · intro e
    cases q : M s
    · rfl
    · obtain ⟨i, hi, x⟩ := (h _ _).1 q
      exact absurd (by rw [x]) (e i hi)
theorem Has.put {T : Nat → En} {n : Nat} {S : Nat → Nat} {L s : Nat} {M : Nat → Option Rk} (h : Has T n M) (x : Idx T n S L s) {i : Nat} (hi : i < n) (r : Rk) : Has (upd T i ⟨(T i).s, r⟩) n (upd M (T i).s (some r)) := fun t q => by
  by_cases e : t = (T i).s
  · subst e
    rw [upd_same]
    constructor
    · intro a; obtain rfl := Option.some.inj a; exact ⟨i, hi, upd_same _ _ _⟩
    · rintro ⟨j, hj, a⟩
      by_cases e : j = i
      · subst e; rw [upd_same] at a; cases a; rfl
      · rw [upd_other _ _ e] at a
        exact absurd (x.inj j hj i hi (by rw [a])) e
  · rw [upd_other _ _ e, h t q]
    constructor
    · rintro ⟨j, hj, a⟩
      exact ⟨j, hj, by rw [upd_other _ _ (fun e2 => e (by rw [← e2, a]))]; exact a⟩
    · rintro ⟨j, hj, a⟩
      by_cases e2 : j = i
      · subst e2; rw [upd_same] at a; cases a; exact absurd rfl e
      · rw [upd_other _ _ e2] at a; exact ⟨j, hj, a⟩
theorem Has.new {T : Nat → En} {n : Nat} {M : Nat → Option Rk} (h : Has T n M) {s : Nat} (hs : M s = Option.none) (r : Rk) : Has (upd T n ⟨s, r⟩) (n + 1) (upd M s (some r)) := fun t q => by
  by_cases e : t = s
  · subst e
    rw [upd_same]
    constructor
    · intro a; obtain rfl := Option.some.inj a; exact ⟨n, by omega, upd_same _ _ _⟩
    · rintro ⟨j, hj, a⟩
      by_cases e : j = n
      · subst e; rw [upd_same] at a; cases a; rfl
      · rw [upd_other _ _ e] at a
        exact absurd (by rw [a]) (h.none.1 hs j (by omega))
  · rw [upd_other _ _ e, h t q]
    constructor
    · rintro ⟨j, hj, a⟩
      exact ⟨j, by omega, by rw [upd_other _ _ (by omega)]; exact a⟩
    · rintro ⟨j, hj, a⟩
      by_cases e2 : j = n
      · subst e2; rw [upd_same] at a; cases a; exact absurd rfl e
      · rw [upd_other _ _ e2] at a; exact ⟨j, by omega, a⟩
/-- The last one in the place of one that goes. -/
theorem Has.drop {T : Nat → En} {n : Nat} {S : Nat → Nat} {L s : Nat} {M : Nat → Option Rk} (h : Has T (n + 1) M) (x : Idx T (n + 1) S L s) {i : Nat} (hi : i < n + 1) : Has (upd T i (T n)) n (upd M (T i).s Option.none) := fun t q => by
  by_cases e : t = (T i).s
  · subst e
    rw [upd_same]
    constructor
    · intro a; cases a
    · rintro ⟨j, hj, a⟩
      by_cases e : j = i
      · subst e; rw [upd_same] at a
        have := x.inj n (by omega) j (by omega) (by rw [a]); omega
      · rw [upd_other _ _ e] at a
        exact absurd (x.inj j (by omega) i hi (by rw [a])) e
  · rw [upd_other _ _ e, h t q]
    constructor
    · rintro ⟨j, hj, a⟩
      by_cases e2 : j = n
      · subst e2
        by_cases e3 : i = j
        · subst e3; exact absurd (by rw [a]) e
        · exact ⟨i, by omega, by rw [upd_same]; exact a⟩
      · exact ⟨j, by omega, by rw [upd_other _ _ (fun e3 => e (by rw [← e3, a]))]; exact a⟩
    · rintro ⟨j, hj, a⟩
      by_cases e2 : j = i
      · subst e2; rw [upd_same] at a; exact ⟨n, by omega, a⟩
      · rw [upd_other _ _ e2] at a; exact ⟨j, by omega, a⟩

theorem Idx.put {T : Nat → En} {n : Nat} {S : Nat → Nat} {L : Nat} (h : Idx T n S L n) {i : Nat} (hi : i < n) (r : Rk) : Idx (upd T i ⟨(T i).s, r⟩) n S L n := by
  have e : ∀ j, (upd T i ⟨(T i).s, r⟩ j).s = (T j).s := fun j => by
    by_cases q : j = i
    · subst q; rw [upd_same]
    · rw [upd_other _ _ q]
  exact ⟨fun j hj => by rw [e]; exact h.lt j hj, fun j hj q => by rw [e]; exact h.at_ j hj q, fun a ha b hb q => by rw [e, e] at q; exact h.inj a ha b hb q, fun y hy q => h.out y hy (fun j hj => by have := q j hj; rwa [e] at this)⟩
/-- One more, its spot not told yet. -/
theorem Idx.new {T : Nat → En} {n : Nat} {S : Nat → Nat} {L : Nat} (h : Idx T n S L n) {s : Nat} (r : Rk) (hs : s < L) (ho : ∀ i, i < n → (T i).s ≠ s) : Idx (upd T n ⟨s, r⟩) (n + 1) S L n := by
  have e : ∀ j, j < n → upd T n ⟨s, r⟩ j = T j := fun j hj => upd_other _ _ (by omega)
  refine ⟨fun j hj => ?_, fun j hj q => ?_, fun a ha b hb q => ?_, fun y hy q => ?_⟩
  · by_cases q : j = n
    · subst q; rw [upd_same]; exact hs
    · rw [e j (by omega)]; exact h.lt j (by omega)
  · rw [e j (by omega)]; exact h.at_ j (by omega) q
  · by_cases q1 : a = n <;> by_cases q2 : b = n
    · omega
    · rw [q1, upd_same, e b (by omega)] at q; exact absurd q.symm (ho b (by omega))
    · rw [q2, upd_same, e a (by omega)] at q; exact absurd q (ho a (by omega))
    · rw [e a (by omega), e b (by omega)] at q; exact h.inj a (by omega) b (by omega) q
  · exact h.out y hy (fun j hj => by have := q j (by omega); rwa [e j hj] at this)
/-- More room for slots. -/
theorem Idx.more {T : Nat → En} {n : Nat} {S : Nat → Nat} {L L' s : Nat} (h : Idx T n S L s) (hL : L ≤ L') (h0 : ∀ x, L ≤ x → x < L' → S x = 0) : Idx T n S L' s :=
  ⟨fun i hi => Nat.lt_of_lt_of_le (h.lt i hi) hL, h.at_, h.inj, fun x hx ho => by
    rcases Nat.lt_or_ge x L with q | q
    · exact h.out x q ho
    · exact h0 x q hx⟩
theorem Idx.congr {T T' : Nat → En} {n : Nat} {S : Nat → Nat} {L s : Nat} (h : Idx T n S L s) (e : ∀ i, i < n → T' i = T i) : Idx T' n S L s :=
  ⟨fun i hi => by rw [e i hi]; exact h.lt i hi, fun i hi q => by rw [e i hi]; exact h.at_ i hi q, fun i hi j hj q => by rw [e i hi, e j hj] at q; exact h.inj i hi j hj q, fun x hx q => h.out x hx (fun i hi => by have := q i hi; rwa [e i hi] at this)⟩
/-- One gone: its spot told no more; the last one in its place, whose spot is not told yet. -/
theorem Idx.drop {T : Nat → En} {n : Nat} {S : Nat → Nat} {L : Nat} (h : Idx T (n + 1) S L (n + 1)) {i : Nat} (hi : i < n + 1) : Idx (upd T i (T n)) n (upd S (T i).s 0) L i := by
  have key : ∀ j, j < n → ∃ m, m < n + 1 ∧ m ≠ i ∧ upd T i (T n) j = T m ∧ (j = i → m = n) ∧ (j ≠ i → m = j) := fun j hj => by
    by_cases q : j = i
    · subst q; exact ⟨n, by omega, by omega, upd_same _ _ _, fun _ => rfl, fun q => absurd rfl q⟩
    · exact ⟨j, by omega, q, upd_other _ _ q, fun e => absurd e q, fun _ => rfl⟩
  refine ⟨fun j hj => ?_, fun j hj q => ?_, fun a ha b hb q => ?_, fun y hy q => ?_⟩
  · obtain ⟨m, hm, _, e, _⟩ := key j hj
    rw [e]; exact h.lt m hm
  · rw [upd_other _ _ q, upd_other _ _ (fun e => q (h.inj j (by omega) i hi e))]
    exact h.at_ j (by omega) (by omega)
  · obtain ⟨m, hm, hmi, e, x1, x2⟩ := key a ha
    obtain ⟨m', hm', hmi', e', y1, y2⟩ := key b hb
    rw [e, e'] at q
    have := h.inj m hm m' hm' q
    by_cases p1 : a = i <;> by_cases p2 : b = i
    · omega
    · have := x1 p1; have := y2 p2; omega
    · have := x2 p1; have := y1 p2; omega
    · have := x2 p1; have := y2 p2; omega
  · by_cases e : y = (T i).s
    · subst e; rw [upd_same]
    · rw [upd_other _ _ e]
      refine h.out y hy (fun j hj => ?_)
      by_cases q1 : j = i
      · subst q1; exact Ne.symm e
      · by_cases q2 : j = n
        · subst q2
          have := q i (by omega)
          rwa [upd_same] at this
        · have := q j (by omega)
          rwa [upd_other _ _ q1] at this
end Go.Proofs.YtlpjojegdnconaaDoor.Ca

namespace Go.Proofs.YtlpjojegdnconaaDoor.Ca
open Go.RowKit Go.Lib
set_option linter.unusedVariables false

/-- All that was there is as it was, but the blocks of F. -/
structure Ke (F : Nat → Prop) (w w' : World) : Prop where
  os : w'.os = w.os
  tape : w'.tape = w.tape
  output : w'.output = w.output
  size : w.heap.size ≤ w'.heap.size
  block : ∀ k, k < w.heap.size → ¬ F k → w'.heap[k]? = w.heap[k]?
/-- Nothing but new blocks. -/
abbrev Gr (w w' : World) : Prop := Ke (fun _ => False) w w'

theorem Ke.refl (F : Nat → Prop) (w : World) : Ke F w w := ⟨rfl, rfl, rfl, Nat.le_refl _, fun _ _ _ => rfl⟩
theorem Ke.trans {F : Nat → Prop} {a b c : World} (h : Ke F a b) (k : Ke F b c) : Ke F a c :=
  ⟨k.os.trans h.os, k.tape.trans h.tape, k.output.trans h.output, Nat.le_trans h.size k.size, fun j hj hn => (k.block j (Nat.lt_of_lt_of_le hj h.size) hn).trans (h.block j hj hn)⟩
theorem Ke.mono {F G : Nat → Prop} {a b : World} (h : Ke F a b) (i : ∀ k, k < a.heap.size → F k → G k) : Ke G a b := ⟨h.os, h.tape, h.output, h.size, fun j hj hn => h.block j hj (fun q => hn (i j hj q))⟩
theorem Ke.of_gr {F : Nat → Prop} {a b : World} (h : Gr a b) : Ke F a b := h.mono (fun _ _ q => q.elim)
theorem Ke.drew {F : Nat → Prop} {a b : World} (h : Ke F a b) : Ke F a b.drew := ⟨h.os, h.tape, h.output, h.size, h.block⟩
theorem Ke.alloc {F : Nat → Prop} {a b : World} (h : Ke F a b) (o : Obj) : Ke F a (b.alloc o) := h.trans ⟨rfl, rfl, rfl, by simp, fun k hk _ => Below.heap_alloc _ _ _ hk⟩
theorem Ke.set {F : Nat → Prop} {a b : World} (h : Ke F a b) {p : Addr} (hp : F p.block ∨ a.heap.size ≤ p.block) (u : Value) : Ke F a (b.setCell p u) :=
  ⟨h.os, h.tape, h.output, by simpa [World.setCell] using h.size, fun k hk hn => (Below.heap_setCell _ _ _ _ (fun e => by
    rcases hp with q | q
    · rw [← e] at q; exact hn q
    · omega)).trans (h.block k hk hn)⟩
theorem Ke.grown {F : Nat → Prop} {a w w' : World} {row : Option Nat} (h : Ke F a w) (hg : w.grownBy w' row) (hr : ∀ k, row = some k → F k ∨ a.heap.size ≤ k) : Ke F a w' :=
  ⟨hg.os.trans h.os, hg.tape.trans h.tape, hg.output.trans h.output, Nat.le_trans h.size hg.size, fun k hk hn => (hg.block k (Nat.lt_of_lt_of_le hk h.size) (fun e => by
    rcases hr k e.symm with q | q
    · exact hn q
    · omega)).trans (h.block k hk hn)⟩
theorem Ke.cell {F : Nat → Prop} {w w' : World} (h : Ke F w w') {p : Addr} (hp : p.block < w.heap.size) (hn : ¬ F p.block) : w'.cell? p = w.cell? p := World.cell?_of_block (h.block p.block hp hn)
theorem Ke.frozen {F : Nat → Prop} {w w' : World} (h : Ke F w w') {p : Addr} (hp : p.block < w.heap.size) (hn : ¬ F p.block) : w'.frozen? p = w.frozen? p := World.frozen?_of_block (h.block p.block hp hn)
theorem Ke.below {F : Nat → Prop} {w w' : World} (h : Ke F w w') {B : Nat} (hB : B ≤ w.heap.size) (hn : ∀ k, k < B → ¬ F k) : Below B w w' := ⟨h.os, h.tape, h.output, h.size, fun k hk => h.block k (by omega) (hn k hk)⟩

theorem lt_of_cell {w : World} {a : Addr} {v : Value} (h : w.cell? a = some v) : a.block < w.heap.size := World.block_lt_of_cell? w a h
/-- A cell behind a call that only lays new blocks. -/
theorem gcell {w w' : World} (h : Gr w w') {a : Addr} {v : Value} (c : w.cell? a = some v) : w'.cell? a = some v := (h.cell (lt_of_cell c) (fun q => q)).trans c
theorem gcell' {w w' : World} (h : Gr w w') {a : Addr} {v : Value} (c : w.cell? a = some v) : w'.drew.cell? a = some v := gcell h.drew c

/-- A rank as the program has it. -/
abbrev V (x : Rk) : Value := .agg #[.int .i64 x.d, .int .i64 x.b, .int .i64 x.g, .int .i64 x.i]

theorem less_cases (x y : Rk) : (((x.d != y.d) = true ∧ lessB x y = decide (x.d < y.d)) ∨ ((x.d != y.d) = false ∧ (x.b != y.b) = true ∧ lessB x y = decide (y.b < x.b))
    ∨ ((x.d != y.d) = false ∧ (x.b != y.b) = false ∧ (x.b == 1) = true ∧ (x.g != y.g) = true ∧ lessB x y = decide (y.g < x.g))
    ∨ ((x.d != y.d) = false ∧ (x.b != y.b) = false ∧ (x.b == 1) = true ∧ (x.g != y.g) = false ∧ lessB x y = decide (x.i < y.i))
    ∨ ((x.d != y.d) = false ∧ (x.b != y.b) = false ∧ (x.b == 1) = false ∧ lessB x y = decide (x.i < y.i))) := by
  unfold lessB
  by_cases h1 : x.d = y.d <;> by_cases h2 : x.b = y.b <;> by_cases h3 : x.b = 1 <;> by_cases h4 : x.g = y.g <;> simp [h1, h2, h3, h4] <;> (try simp_all)

theorem ret_bool' {a b : Bool} (h : a = b) : Ending.returned (.bool a) = Ending.returned (.bool b) := by rw [h]

set_option maxHeartbeats 1000000 in
theorem less_any (x y : Rk) (w : World) : Calls Tryd.prog 101 #[V x, V y] w fun e w' => e = .returned (.bool (lessB x y)) ∧ Gr w w' := by
  obtain ⟨xd, xb, xg, xi⟩ := x
  obtain ⟨yd, yb, yg, yi⟩ := y
  rcases less_cases ⟨xd, xb, xg, xi⟩ ⟨yd, yb, yg, yi⟩ with ⟨h1, hv⟩ | ⟨h1, h2, hv⟩ | ⟨h1, h2, h3, h4, hv⟩ | ⟨h1, h2, h3, h4, hv⟩ | ⟨h1, h2, h3, hv⟩
  all_goals
    have HV := Lib.hid hv
    clear hv
    simp only at *
    go_enter Tryd.func101, Tryd.ntmps101
    go_wp2
    go_ret
    exact ⟨ret_bool' HV.out.symm, ((Ke.refl _ _).alloc _).alloc _⟩

/-! ### the heap's own order -/
theorem hless_time (p : Nat) (k : Int) (hk : k = 2) (x y : Rk) (w : World) (c0 : w.cell? ⟨p, 0, none⟩ = some (.int .i64 k)) : Calls Tryd.prog 100 #[.pointer (some ⟨p, 0, none⟩), V x, V y] w fun e w' => e = .returned (.bool (ltK k x y)) ∧ Gr w w' := by
  subst hk
  have hp := lt_of_cell c0
  simp only at hp
  have hv : ltK 2 x y = (decide (x.d < y.d) || (decide (x.d = y.d) && decide (x.i < y.i))) := by simp [ltK]
  have HV := Lib.hid hv
  clear hv
  obtain ⟨xd, xb, xg, xi⟩ := x
  obtain ⟨yd, yb, yg, yi⟩ := y
  by_cases h1 : xd < yd
  · have d1 : decide (xd < yd) = true := by simp [h1]
    go_enter Tryd.func100, Tryd.ntmps100
    go_wp2
    go_ret
    exact ⟨ret_bool' (by rw [HV.out]; simp [h1]), ((Ke.refl _ _).alloc _).alloc _⟩
  · have d1 : decide (xd < yd) = false := by simp [h1]
    by_cases h2 : xd = yd
    · have d2 : (xd == yd) = true := by simp [h2]
      obtain ⟨b, hb⟩ : ∃ b, decide (xi < yi) = b := ⟨_, rfl⟩
      have HB := Lib.hid hb
      have H2 := Lib.hid h2
      clear h1 h2
      go_enter Tryd.func100, Tryd.ntmps100
      go_wp2
      go_ret
      exact ⟨ret_bool' (by rw [HV.out]; simp [H2.out, ← HB.out]), ((Ke.refl _ _).alloc _).alloc _⟩
    · have d2 : (xd == yd) = false := by simp [h2]
      clear h1
      go_enter Tryd.func100, Tryd.ntmps100
      go_wp2
      go_ret
      exact ⟨ret_bool' (by rw [HV.out]; simp_all), ((Ke.refl _ _).alloc _).alloc _⟩

theorem hless_rank (p : Nat) (k : Int) (hk : k ≠ 2) (x y : Rk) (w : World) (c0 : w.cell? ⟨p, 0, none⟩ = some (.int .i64 k)) : Calls Tryd.prog 100 #[.pointer (some ⟨p, 0, none⟩), V x, V y] w fun e w' => e = .returned (.bool (ltK k x y)) ∧ Gr w w' := by
  have hp := lt_of_cell c0
  simp only at hp
  have hv : ltK k x y = lessB x y := by simp [ltK, hk]
  rw [hv]
  have d1 : (k == 2) = false := by simp [hk]
  have c1 := Lib.hid (fun W => less_any x y W)
  clear hv hk
  obtain ⟨l, hl⟩ : ∃ l, lessB x y = l := ⟨_, rfl⟩
  rw [hl] at c1 ⊢
  clear hl
  obtain ⟨xd, xb, xg, xi⟩ := x
  obtain ⟨yd, yb, yg, yi⟩ := y
  go_enter Tryd.func100, Tryd.ntmps100
  go_wp2_with fail
  refine (c1.out _).mono ?_
  rintro e w1 ⟨rfl, g1⟩
  go_wp2
  go_ret
  exact ⟨rfl, (((Ke.refl _ _).alloc _).alloc _).trans g1⟩

theorem hless_any (p : Nat) (k : Int) (x y : Rk) (w : World) (c0 : w.cell? ⟨p, 0, none⟩ = some (.int .i64 k)) : Calls Tryd.prog 100 #[.pointer (some ⟨p, 0, none⟩), V x, V y] w fun e w' => e = .returned (.bool (ltK k x y)) ∧ Gr w w' := by
  by_cases hk : k = 2
  · exact hless_time p k hk x y w c0
  · exact hless_rank p k hk x y w c0

end Go.Proofs.YtlpjojegdnconaaDoor.Ca

namespace Go.Proofs.YtlpjojegdnconaaDoor.Ca
open Go.RowKit Go.Lib
set_option linter.unusedVariables false

/-- An entry as the program has it. -/
abbrev VE (e : En) : Value := .agg #[.int .i64 e.s, .int .i64 e.r.d, .int .i64 e.r.b, .int .i64 e.r.g, .int .i64 e.r.i]

set_option maxHeartbeats 1000000 in
theorem ahead_any (p : Nat) (k : Int) (x y : En) (w : World) (c0 : w.cell? ⟨p, 0, none⟩ = some (.int .i64 k)) : Calls Tryd.prog 99 #[.pointer (some ⟨p, 0, none⟩), VE x, VE y] w fun e w' => e = .returned (.bool (ahead k x y)) ∧ Gr w w' := by
  have hp := lt_of_cell c0
  simp only at hp
  have hv : ahead k x y = if ltK k x.r y.r then true else if ltK k y.r x.r then false else decide ((x.s : Int) < (y.s : Int)) := by
    unfold ahead
    cases ltK k x.r y.r <;> cases ltK k y.r x.r <;> simp
  have C1 := Lib.hid (fun W c => hless_any p k x.r y.r W c)
  have C2 := Lib.hid (fun W c => hless_any p k y.r x.r W c)
  obtain ⟨l1, h1⟩ : ∃ l, ltK k x.r y.r = l := ⟨_, rfl⟩
  obtain ⟨l2, h2⟩ : ∃ l, ltK k y.r x.r = l := ⟨_, rfl⟩
  rw [h1, h2] at hv
  rw [h1] at C1
  rw [h2] at C2
  rw [hv]
  clear hv h1 h2
  obtain ⟨xs, xd, xb, xg, xi⟩ := x
  obtain ⟨ys, yd, yb, yg, yi⟩ := y
  simp only at C1 C2 ⊢
  obtain ⟨A, hA⟩ : ∃ A, A = ((w.alloc (.cells #[.int .i64 xs, .int .i64 xd, .int .i64 xb, .int .i64 xg, .int .i64 xi] 128)).alloc (.cells #[.int .i64 ys, .int .i64 yd, .int .i64 yb, .int .i64 yg, .int .i64 yi] 128)) := ⟨_, rfl⟩
  have gA : Gr w A := by rw [hA]; exact ((Ke.refl _ _).alloc _).alloc _
  have e0 : A.cell? ⟨p, 0, none⟩ = some (.int .i64 k) := gcell gA c0
  have a0 : A.cell? ⟨w.heap.size, 0, none⟩ = some (.int .i64 xs) := by rw [hA]; simp [go_sem]
  have a1 : A.cell? ⟨w.heap.size, 1, none⟩ = some (.int .i64 xd) := by rw [hA]; simp [go_sem]
  have a2 : A.cell? ⟨w.heap.size, 2, none⟩ = some (.int .i64 xb) := by rw [hA]; simp [go_sem]
  have a3 : A.cell? ⟨w.heap.size, 3, none⟩ = some (.int .i64 xg) := by rw [hA]; simp [go_sem]
  have a4 : A.cell? ⟨w.heap.size, 4, none⟩ = some (.int .i64 xi) := by rw [hA]; simp [go_sem]
  have b0 : A.cell? ⟨w.heap.size + 1, 0, none⟩ = some (.int .i64 ys) := by rw [hA]; simp [go_sem]
  have b1 : A.cell? ⟨w.heap.size + 1, 1, none⟩ = some (.int .i64 yd) := by rw [hA]; simp [go_sem]
  have b2 : A.cell? ⟨w.heap.size + 1, 2, none⟩ = some (.int .i64 yb) := by rw [hA]; simp [go_sem]
  have b3 : A.cell? ⟨w.heap.size + 1, 3, none⟩ = some (.int .i64 yg) := by rw [hA]; simp [go_sem]
  have b4 : A.cell? ⟨w.heap.size + 1, 4, none⟩ = some (.int .i64 yi) := by rw [hA]; simp [go_sem]
  have G0 := Lib.hid gA
  have X := Lib.hid (And.intro e0 (And.intro a0 (And.intro a1 (And.intro a2 (And.intro a3 (And.intro a4 (And.intro b0 (And.intro b1 (And.intro b2 (And.intro b3 b4))))))))))
  have HA := Lib.hid hA
  clear gA e0 a0 a1 a2 a3 a4 b0 b1 b2 b3 b4 hA
  go_enter Tryd.func99, Tryd.ntmps99
  go_wp2_with fail
  rw [← HA.out]
  obtain ⟨e0, a0, a1, a2, a3, a4, b0, b1, b2, b3, b4⟩ := X.out
  refine (C1.out A e0).mono ?_
  rintro e w1 ⟨rfl, g1⟩
  have q0 := gcell g1 e0
  have q1 := gcell g1 a0
  have q2 := gcell g1 a1
  have q3 := gcell g1 a2
  have q4 := gcell g1 a3
  have q5 := gcell g1 a4
  have q6 := gcell g1 b0
  have q7 := gcell g1 b1
  have q8 := gcell g1 b2
  have q9 := gcell g1 b3
  have q10 := gcell g1 b4
  have G1 := Lib.hid (G0.out.trans g1)
  clear e0 a0 a1 a2 a3 a4 b0 b1 b2 b3 b4 g1 X HA
  cases l1
  case true =>
    go_wp2
    go_ret
    exact ⟨rfl, G1.out⟩
  case false =>
    go_wp2_with fail
    refine (C2.out _ q0).mono ?_
    rintro e w2 ⟨rfl, g2⟩
    have r1 := gcell g2 q1
    have r6 := gcell g2 q6
    have G2 := Lib.hid (G1.out.trans g2)
    clear q0 q1 q2 q3 q4 q5 q6 q7 q8 q9 q10 g2
    cases l2
    case true =>
      go_wp2
      go_ret
      exact ⟨rfl, G2.out⟩
    case false =>
      go_wp2
      go_ret
      exact ⟨by simp, G2.out⟩

end Go.Proofs.YtlpjojegdnconaaDoor.Ca

namespace Go.Proofs.YtlpjojegdnconaaDoor.Ca
open Go.RowKit Go.Lib
set_option linter.unusedVariables false

/-- A row of the call's own, its cells by their number. -/
def Row (w : World) (base : Nat) (e : TypeId) (size : Nat) (v : Value) (n : Nat) (f : Nat → Value) : Prop := w.ownsRow base e size v n ((List.range (n * size)).map f)
section
variable {w w' : World} {base : Nat} {e : TypeId} {size : Nat} {v : Value} {n : Nat} {f f' : Nat → Value}
theorem Row.congr (h : Row w base e size v n f) (q : ∀ j, j < n * size → f' j = f j) : Row w base e size v n f' := by
  unfold Row
  rw [show (List.range (n * size)).map f' = (List.range (n * size)).map f from List.map_congr_left (fun j hj => q j (List.mem_range.1 hj))]
  exact h
theorem Row.keep (h : Row w base e size v n f) (q : ∀ g, v.ownBlock = some g → w'.heap[g]? = w.heap[g]?) : Row w' base e size v n f := by
  refine ⟨h.1, ?_⟩
  rcases h.2 with hn | ⟨g, cap, cur, rfl, hb, hgg, rest⟩
  · exact .inl hn
  · exact .inr ⟨g, cap, cur, rfl, hb, (q g rfl).trans hgg, rest⟩
theorem Row.form (h : Row w base e size v n f) (hn : 0 < n) : ∃ g cap, v = .slice (some ⟨g, 0, none⟩) n cap ∧ base ≤ g ∧ g < w.heap.size ∧ n ≤ cap ∧ cap ≤ maxLen := by
  rcases h.2 with ⟨_, q⟩ | ⟨g, cap, cur, rfl, hb, hgg, h1, h2, _⟩
  · omega
  · exact ⟨g, cap, rfl, hb, (Array.getElem?_eq_some_iff.1 hgg).1, h1, h2⟩
/-- Nil, or a block with some room. -/
theorem Row.shape (h : Row w base e size v n f) : (v = .slice none 0 0 ∧ n = 0) ∨ ∃ g cap, v = .slice (some ⟨g, 0, none⟩) n cap ∧ base ≤ g ∧ g < w.heap.size ∧ n ≤ cap ∧ cap ≤ maxLen := by
  rcases h.2 with q | ⟨g, cap, cur, rfl, hb, hgg, h1, h2, _⟩
  · exact .inl q
  · exact .inr ⟨g, cap, rfl, hb, (Array.getElem?_eq_some_iff.1 hgg).1, h1, h2⟩
theorem Row.cell {g cap : Nat} (h : Row w base e size (.slice (some ⟨g, 0, none⟩) n cap) n f) (j : Nat) (hj : j < n * size) : w.cell? ⟨g, j, none⟩ = some (f j) := by
  rw [World.ownsRow.cellAt h j hj]; simp [hj]
theorem Row.frozen {g cap : Nat} (h : Row w base e size (.slice (some ⟨g, 0, none⟩) n cap) n f) (j : Nat) : w.frozen? ⟨g, j, none⟩ = false := World.ownsRow.frozenAt h j
theorem Row.set {g cap : Nat} (h : Row w base e size (.slice (some ⟨g, 0, none⟩) n cap) n f) (j : Nat) (u : Value) : Row (w.setCell ⟨g, j, none⟩ u) base e size (.slice (some ⟨g, 0, none⟩) n cap) n (upd f j u) := by
  have := (World.ownsRow.stored h j u).1
  unfold Row
  rw [show (List.range (n * size)).map (upd f j u) = ((List.range (n * size)).map f).set j u from ?_]
  · exact this
  · refine List.ext_getElem (by simp) fun i h1 h2 => ?_
    simp only [List.getElem_map, List.getElem_range, List.getElem_set]
    unfold upd
    by_cases q : i = j
    · subst q; simp
    · simp [q, Ne.symm q]
theorem Row.lt (h : Row w base e size v n f) {g : Nat} (hg : v.ownBlock = some g) : base ≤ g ∧ g < w.heap.size := World.ownsRow.lt h g hg
end

/-- The o-th cell of an entry. -/
def cellE (e : En) (o : Nat) : Value := if o = 0 then .int .i64 e.s else if o = 1 then .int .i64 e.r.d else if o = 2 then .int .i64 e.r.b else if o = 3 then .int .i64 e.r.g else .int .i64 e.r.i
/-- The cells of a tree, of the spots. -/
def ec (T : Nat → En) (j : Nat) : Value := cellE (T (j / 5)) (j % 5)
def sc (S : Nat → Nat) (j : Nat) : Value := .int .i32 (S j : Nat)

theorem ec_set (T : Nat → En) (i : Nat) (e : En) : ec (upd T i e) = upd (upd (upd (upd (upd (ec T) (i * 5) (.int .i64 e.s)) (i * 5 + 1) (.int .i64 e.r.d)) (i * 5 + 2) (.int .i64 e.r.b)) (i * 5 + 3) (.int .i64 e.r.g)) (i * 5 + 4) (.int .i64 e.r.i) := by
  funext j
  unfold ec
  by_cases q : j / 5 = i
  · rw [q, upd_same]
    have : j = i * 5 + j % 5 := by omega
    have h5 : j % 5 < 5 := Nat.mod_lt _ (by omega)
    generalize j % 5 = o at this h5
    subst this
    unfold upd cellE
    rcases (show o = 0 ∨ o = 1 ∨ o = 2 ∨ o = 3 ∨ o = 4 by omega) with rfl | rfl | rfl | rfl | rfl <;> simp
  · rw [upd_other _ _ q, upd_other _ _ (by omega), upd_other _ _ (by omega), upd_other _ _ (by omega), upd_other _ _ (by omega), upd_other _ _ (by omega)]
theorem sc_set (S : Nat → Nat) (i x : Nat) : sc (upd S i x) = upd (sc S) i (.int .i32 (x : Nat)) := by
  funext j
  unfold sc upd
  split <;> rfl

/-- The blocks of a heap. -/
def Foot (p : Nat) (v u : Value) (k : Nat) : Prop := k = p ∨ v.ownBlock = some k ∨ u.ownBlock = some k

/-- The heap at block p: its kind k, its tree v with the entries T, its spots u with the numbers S. -/
structure Mem (w : World) (base p : Nat) (k : Int) (v u : Value) (n : Nat) (T : Nat → En) (L : Nat) (S : Nat → Nat) : Prop where
  bp : base ≤ p
  n6 : n ≤ 65536
  l6 : L ≤ 65536
  c0 : w.cell? ⟨p, 0, none⟩ = some (.int .i64 k)
  c1 : w.cell? ⟨p, 1, none⟩ = some v
  c2 : w.cell? ⟨p, 2, none⟩ = some u
  fz : ∀ o, w.frozen? ⟨p, o, none⟩ = false
  tr : Row w base 128 5 v n (ec T)
  sp : Row w base 21 1 u L (sc S)
  pv : v.ownBlock ≠ some p
  pu : u.ownBlock ≠ some p
  vu : ∀ g, v.ownBlock = some g → u.ownBlock ≠ some g
section
variable {w w' : World} {base p : Nat} {k : Int} {v u : Value} {n : Nat} {T : Nat → En} {L : Nat} {S : Nat → Nat}
theorem Mem.pl (h : Mem w base p k v u n T L S) : p < w.heap.size := lt_of_cell h.c0
theorem Mem.keep (h : Mem w base p k v u n T L S) (q : ∀ g, Foot p v u g → w'.heap[g]? = w.heap[g]?) : Mem w' base p k v u n T L S :=
  { h with
    c0 := (World.cell?_of_block (q p (.inl rfl))).trans h.c0, c1 := (World.cell?_of_block (q p (.inl rfl))).trans h.c1, c2 := (World.cell?_of_block (q p (.inl rfl))).trans h.c2
    fz := fun o => (World.frozen?_of_block (a := ⟨p, o, none⟩) (q p (.inl rfl))).trans (h.fz o)
    tr := h.tr.keep (fun g hg => q g (.inr (.inl hg))), sp := h.sp.keep (fun g hg => q g (.inr (.inr hg))) }
theorem Mem.lt (h : Mem w base p k v u n T L S) {g : Nat} (hg : Foot p v u g) : base ≤ g ∧ g < w.heap.size := by
  rcases hg with rfl | hg | hg
  · exact ⟨h.bp, h.pl⟩
  · exact h.tr.lt hg
  · exact h.sp.lt hg
theorem Mem.ke {F : Nat → Prop} (h : Mem w base p k v u n T L S) (q : Ke F w w') (hF : ∀ g, Foot p v u g → ¬ F g) : Mem w' base p k v u n T L S := h.keep (fun g hg => q.block g (h.lt hg).2 (hF g hg))
theorem Mem.gr (h : Mem w base p k v u n T L S) (q : Gr w w') : Mem w' base p k v u n T L S := h.ke q (fun _ _ x => x)
theorem Mem.congrT {T' : Nat → En} (h : Mem w base p k v u n T L S) (q : ∀ i, i < n → T' i = T i) : Mem w base p k v u n T' L S :=
  { h with tr := h.tr.congr (fun j hj => by unfold ec; rw [q (j / 5) (by omega)]) }
theorem Mem.congrS {S' : Nat → Nat} (h : Mem w base p k v u n T L S) (q : ∀ i, i < L → S' i = S i) : Mem w base p k v u n T L S' :=
  { h with sp := h.sp.congr (fun j hj => by unfold sc; rw [q j (by omega)]) }
theorem Mem.congrF {S' : Nat → Nat} (h : Mem w base p k v u n T L S) (q : S' = S) : Mem w base p k v u n T L S' := by rw [q]; exact h

/-- The five cells of an entry. -/
theorem tree_cells {g cap : Nat} (h : Row w base 128 5 (.slice (some ⟨g, 0, none⟩) n cap) n (ec T)) (i : Nat) (hi : i < n) :
    w.cell? ⟨g, i * 5, none⟩ = some (.int .i64 (T i).s) ∧ w.cell? ⟨g, i * 5 + 1, none⟩ = some (.int .i64 (T i).r.d) ∧ w.cell? ⟨g, i * 5 + 2, none⟩ = some (.int .i64 (T i).r.b) ∧ w.cell? ⟨g, i * 5 + 3, none⟩ = some (.int .i64 (T i).r.g) ∧ w.cell? ⟨g, i * 5 + 4, none⟩ = some (.int .i64 (T i).r.i) := by
  have c := fun o (ho : o < 5) => h.cell (i * 5 + o) (by omega)
  have e : ∀ o, o < 5 → ec T (i * 5 + o) = cellE (T i) o := fun o ho => by unfold ec; rw [show (i * 5 + o) / 5 = i by omega, show (i * 5 + o) % 5 = o by omega]
  refine ⟨?_, ?_, ?_, ?_, ?_⟩
  · have := c 0 (by omega); rwa [e 0 (by omega)] at this
  · have := c 1 (by omega); rwa [e 1 (by omega)] at this
  · have := c 2 (by omega); rwa [e 2 (by omega)] at this
  · have := c 3 (by omega); rwa [e 3 (by omega)] at this
  · have := c 4 (by omega); rwa [e 4 (by omega)] at this
end

theorem Mem.drew {w : World} {base p : Nat} {k : Int} {v u : Value} {n : Nat} {T : Nat → En} {L : Nat} {S : Nat → Nat} (h : Mem w base p k v u n T L S) : Mem w.drew base p k v u n T L S := h.gr (Ke.refl _ _).drew
theorem Mem.alloc {w : World} {base p : Nat} {k : Int} {v u : Value} {n : Nat} {T : Nat → En} {L : Nat} {S : Nat → Nat} (h : Mem w base p k v u n T L S) (o : Obj) : Mem (w.alloc o) base p k v u n T L S := h.gr ((Ke.refl _ _).alloc o)

section
variable {w : World} {base p : Nat} {k : Int} {u : Value} {n : Nat} {T : Nat → En} {L : Nat} {S : Nat → Nat} {g cap : Nat}
theorem blk_other (w : World) (g o : Nat) (x : Value) (j : Nat) (h : j ≠ g) : (w.setCell ⟨g, o, none⟩ x).heap[j]? = w.heap[j]? := Below.heap_setCell _ _ _ _ h
theorem Mem.setRow {w' : World} {T' : Nat → En} (h : Mem w base p k (.slice (some ⟨g, 0, none⟩) n cap) u n T L S) (hb : ∀ j, j ≠ g → w'.heap[j]? = w.heap[j]?) (ht : Row w' base 128 5 (.slice (some ⟨g, 0, none⟩) n cap) n (ec T')) :
    Mem w' base p k (.slice (some ⟨g, 0, none⟩) n cap) u n T' L S := by
  have hpg : p ≠ g := fun e => h.pv (by simp [Value.ownBlock, e])
  have ep := hb p hpg
  exact { h with
    c0 := (World.cell?_of_block ep).trans h.c0, c1 := (World.cell?_of_block ep).trans h.c1, c2 := (World.cell?_of_block ep).trans h.c2
    fz := fun o => (World.frozen?_of_block (a := ⟨p, o, none⟩) ep).trans (h.fz o)
    tr := ht
    sp := h.sp.keep (fun q hq => hb q (fun e => h.vu g rfl (by rw [hq, e]))) }
theorem Mem.setT (h : Mem w base p k (.slice (some ⟨g, 0, none⟩) n cap) u n T L S) (i : Nat) (e : En) :
    Mem (((((w.setCell ⟨g, i * 5, none⟩ (.int .i64 e.s)).setCell ⟨g, i * 5 + 1, none⟩ (.int .i64 e.r.d)).setCell ⟨g, i * 5 + 2, none⟩ (.int .i64 e.r.b)).setCell ⟨g, i * 5 + 3, none⟩ (.int .i64 e.r.g)).setCell ⟨g, i * 5 + 4, none⟩ (.int .i64 e.r.i)) base p k (.slice (some ⟨g, 0, none⟩) n cap) u n (upd T i e) L S := by
  refine h.setRow (fun j hj => ?_) ?_
  · rw [blk_other _ _ _ _ _ hj, blk_other _ _ _ _ _ hj, blk_other _ _ _ _ _ hj, blk_other _ _ _ _ _ hj, blk_other _ _ _ _ _ hj]
  · rw [ec_set]; exact ((((h.tr.set _ _).set _ _).set _ _).set _ _).set _ _
theorem Mem.setS {v : Value} {q cap2 : Nat} (h : Mem w base p k v (.slice (some ⟨q, 0, none⟩) L cap2) n T L S) (s x : Nat) {y : Int} (hy : y = (x : Int)) :
    Mem (w.setCell ⟨q, s, none⟩ (.int .i32 y)) base p k v (.slice (some ⟨q, 0, none⟩) L cap2) n T L (upd S s x) := by
  subst hy
  have hb : ∀ j, j ≠ q → (w.setCell ⟨q, s, none⟩ (.int .i32 (x : Int))).heap[j]? = w.heap[j]? := fun j hj => Below.heap_setCell _ _ _ _ hj
  have hpq : p ≠ q := fun e => h.pu (by simp [Value.ownBlock, e])
  have ep := hb p hpq
  exact { h with
    c0 := (World.cell?_of_block ep).trans h.c0, c1 := (World.cell?_of_block ep).trans h.c1, c2 := (World.cell?_of_block ep).trans h.c2
    fz := fun o => (World.frozen?_of_block (a := ⟨p, o, none⟩) ep).trans (h.fz o)
    tr := h.tr.keep (fun g hg => hb g (fun e => h.vu g hg (by rw [e]; rfl)))
    sp := by rw [sc_set]; exact h.sp.set _ _ }
end

theorem set_any (w : World) (base p : Nat) (k : Int) (v u : Value) (n : Nat) (T : Nat → En) (L : Nat) (S : Nat → Nat) (h : Mem w base p k v u n T L S) (i : Nat) (hi : i < n) (e : En) (he : e.s < L) :
    Calls Tryd.prog 83 #[.pointer (some ⟨p, 0, none⟩), .int .i64 i, VE e] w fun x w' => x = .returned (.tuple #[]) ∧ Mem w' base p k v u n (upd T i e) L (upd S e.s (i + 1)) ∧ Ke (Foot p v u) w w' := by
  obtain ⟨g, cap, rfl, bg, lg, nc, cm⟩ := h.tr.form (by omega)
  obtain ⟨q, cap2, rfl, bq, lq, nc2, cm2⟩ := h.sp.form (by omega)
  obtain ⟨es, ed, eb, eg, ei⟩ := e
  simp only at he ⊢
  have H := Lib.hid h
  have c0 := h.c0
  have c1 := h.c1
  have c2 := h.c2
  obtain ⟨t0, t1, t2, t3, t4⟩ := tree_cells h.tr i hi
  have f0 := h.tr.frozen (i * 5)
  have f1 := h.tr.frozen (i * 5 + 1)
  have f2 := h.tr.frozen (i * 5 + 2)
  have f3 := h.tr.frozen (i * 5 + 3)
  have f4 := h.tr.frozen (i * 5 + 4)
  have s0 := h.sp.cell es (by omega)
  unfold sc at s0
  have z0 := h.sp.frozen es
  have pl := h.pl
  have hgp : ¬ g = p := fun e => h.pv (by simp [Value.ownBlock, e])
  have hqp : ¬ q = p := fun e => h.pu (by simp [Value.ownBlock, e])
  have hgq : ¬ g = q := fun e => h.vu g rfl (by simp [Value.ownBlock, e])
  have hn6 := h.n6
  have hl6 := h.l6
  clear h
  have hw : IntKind.i32.wrap ((i : Int) + 1) = (i : Int) + 1 := by rw [IntKind.wrap_i32]; omega
  have hiz : (i : Int) < (n : Int) := by omega
  have hez : (es : Int) < (L : Int) := by omega
  go_enter Tryd.func83, Tryd.ntmps83
  go_wp2
  go_region
  go_wp2
  go_region
  go_end0
  have m := ((((H.out.setT i ⟨es, ed, eb, eg, ei⟩).setS es (i + 1) (y := (i : Int) + 1) (by omega)).alloc (.cells #[.int .i64 es, .int .i64 ed, .int .i64 eb, .int .i64 eg, .int .i64 ei] 128)).drew).drew
  refine ⟨rfl, m, ?_⟩
  have F1 : Foot p (.slice (some ⟨g, 0, none⟩) n cap) (.slice (some ⟨q, 0, none⟩) L cap2) g := .inr (.inl rfl)
  have F2 : Foot p (.slice (some ⟨g, 0, none⟩) n cap) (.slice (some ⟨q, 0, none⟩) L cap2) q := .inr (.inr rfl)
  exact (((((((((Ke.refl _ w).set (.inl F1) _).set (.inl F1) _).set (.inl F1) _).set (.inl F1) _).set (.inl F1) _).set (.inl F2) _).alloc _).drew).drew

end Go.Proofs.YtlpjojegdnconaaDoor.Ca

namespace Go.Proofs.YtlpjojegdnconaaDoor.Ca
open Go.RowKit Go.Lib
set_option linter.unusedVariables false

/-! ### a region that draws its order, whose operations only read and whose callees lay new blocks -/
structure GW (w : World) where
  W : World
  gr : Gr w W
theorem wp_region_gw {P : Program} {id : Nat} {Q : Exit → Act → World → Prop} {a : Act} {w : World} {l : List Oper} (hm : P.follows .mixedOrders = true) (hB : Region.lexB .any l.toArray = true)
    (h : wpQuiet P l.toArray (fun w' => ∃ p : GW w, w' = p.W) (fun a' => ∀ w', (∃ p : GW w, w' = p.W) → Q .normal a' w') l a) : (Code.region id l.toArray true).wp P Q a w :=
  wp_region_quiet (C := fun w' => ∃ p : GW w, w' = p.W) hm hB ⟨⟨w.drew, (Ke.refl _ w).drew⟩, rfl⟩ (by simpa using h)
theorem gw_cell {w : World} {a : Addr} {v : Value} (h : w.cell? a = some v) (p : GW w) : p.W.cell? a = some v := gcell p.gr h
theorem gw_of {P : Program} {f : FuncId} {args : Array Value} {w : World} {p : GW w} {v : Value} (h : Calls P f args p.W fun e w' => e = .returned v ∧ Gr p.W w') :
    Calls P f args p.W fun e w' => e = .returned v ∧ ∃ q : GW w, w' = q.W :=
  h.mono fun _ w' ⟨he, hg⟩ => ⟨he, ⟨w', p.gr.trans hg⟩, rfl⟩
theorem gw_self {w : World} (p : GW w) : ∃ q : GW w, p.W = q.W := ⟨p, rfl⟩

/-! ### the first of the two right below -/
/-- Where it stands; -1 where there is none. -/
def fb (k : Int) (T : Nat → En) (n s : Nat) : Int := if n ≤ 2 * s + 1 then -1 else if 2 * s + 2 < n ∧ ahead k (T (2 * s + 2)) (T (2 * s + 1)) = true then ((2 * s + 2 : Nat) : Int) else ((2 * s + 1 : Nat) : Int)
theorem par_children {s j : Nat} (h0 : 0 < j) (h : par j = s) : j = 2 * s + 1 ∨ j = 2 * s + 2 := by unfold par at h; omega
theorem fb_spec (k : Int) (T : Nat → En) (n s : Nat) : (fb k T n s = -1 ∧ n ≤ 2 * s + 1) ∨ ∃ c : Nat, fb k T n s = (c : Int) ∧ 0 < c ∧ c < n ∧ par c = s ∧ c ≠ s ∧ ∀ j, 0 < j → j < n → par j = s → j ≠ c → ahead k (T j) (T c) = false := by
  unfold fb
  split
  · exact .inl ⟨rfl, by assumption⟩
  · split
    · rename_i h1 h2
      refine .inr ⟨2 * s + 2, rfl, by omega, h2.1, by unfold par; omega, by omega, fun j h0 hj hp hne => ?_⟩
      rcases par_children h0 hp with e | e
      · rw [e]; exact ahead_asymm k _ _ h2.2
      · omega
    · rename_i h1 h2
      refine .inr ⟨2 * s + 1, rfl, by omega, by omega, by unfold par; omega, by omega, fun j h0 hj hp hne => ?_⟩
      rcases par_children h0 hp with e | e
      · omega
      · rw [e]
        cases q : ahead k (T (2 * s + 2)) (T (2 * s + 1))
        · rfl
        · exact absurd ⟨by omega, q⟩ h2

set_option maxHeartbeats 1000000 in
theorem fb_any (w : World) (base p : Nat) (k : Int) (v u : Value) (n : Nat) (T : Nat → En) (L : Nat) (S : Nat → Nat) (h : Mem w base p k v u n T L S) (s : Nat) (hs : s < n) :
    Calls Tryd.prog 98 #[.pointer (some ⟨p, 0, none⟩), .int .i64 s] w fun x w' => x = .returned (.int .i64 (fb k T n s)) ∧ Gr w w' := by
  obtain ⟨g, cap, rfl, bg, lg, nc, cm⟩ := h.tr.form (by omega)
  have c1 := h.c1
  have hn6 := h.n6
  have H := Lib.hid h
  by_cases h1 : n ≤ 2 * s + 1
  · have h1z : (n : Int) ≤ 2 * (s : Int) + 1 := by omega
    have hv : fb k T n s = -1 := by simp [fb, h1]
    rw [hv]
    clear h hv
    go_enter Tryd.func98, Tryd.ntmps98
    go_wp2
    go_ret
    exact ⟨rfl, Ke.refl _ _⟩
  · have h1z : ¬ (n : Int) ≤ 2 * (s : Int) + 1 := by omega
    obtain ⟨l, hl⟩ : ∃ l : Nat, l = 2 * s + 1 := ⟨_, rfl⟩
    obtain ⟨r, hr⟩ : ∃ r : Nat, r = 2 * s + 2 := ⟨_, rfl⟩
    have el : 2 * (s : Int) + 1 = (l : Int) := by omega
    have er : 2 * (s : Int) + 2 = (r : Int) := by omega
    have hln : ¬ (n : Int) ≤ (l : Int) := by omega
    have hln2 : (l : Int) < (n : Int) := by omega
    by_cases h2 : r < n
    · have h2z : (r : Int) < (n : Int) := by omega
      have d2 : decide ((r : Int) < (n : Int)) = true := by simp; omega
      obtain ⟨a, ha⟩ : ∃ a, ahead k (T r) (T l) = a := ⟨_, rfl⟩
      have hv : fb k T n s = if a then (r : Int) else (l : Int) := by
        unfold fb
        rw [if_neg h1, ← hl, ← hr, ha]
        cases a <;> simp [h2]
      rw [hv]
      have C := Lib.hid (fun W c => ahead_any p k (T r) (T l) W c)
      rw [ha] at C
      obtain ⟨t0, t1, t2, t3, t4⟩ := tree_cells h.tr r h2
      obtain ⟨u0, u1, u2, u3, u4⟩ := tree_cells h.tr l (by omega)
      generalize T r = x at C t0 t1 t2 t3 t4
      generalize T l = y at C u0 u1 u2 u3 u4
      obtain ⟨xs, xd, xb, xg, xi⟩ := x
      obtain ⟨ys, yd, yb, yg, yi⟩ := y
      simp only at C t0 t1 t2 t3 t4 u0 u1 u2 u3 u4
      have k0 := gw_cell h.c0
      have k1 := gw_cell c1
      have kt0 := gw_cell t0
      have kt1 := gw_cell t1
      have kt2 := gw_cell t2
      have kt3 := gw_cell t3
      have kt4 := gw_cell t4
      have ku0 := gw_cell u0
      have ku1 := gw_cell u1
      have ku2 := gw_cell u2
      have ku3 := gw_cell u3
      have ku4 := gw_cell u4
      clear h hv ha t0 t1 t2 t3 t4 u0 u1 u2 u3 u4 hl hr h1z
      go_enter Tryd.func98, Tryd.ntmps98
      go_wp2_with fail
      have hne : Nonempty (GW w) := ⟨⟨w, Ke.refl _ _⟩⟩
      have hself := @gw_self w
      have hself' : ∀ p : GW w, ∃ q : GW w, q.W = p.W := fun p => ⟨p, rfl⟩
      refine wp_region_gw (by kernel_rfl) (by kernel_rfl) ?_
      repeat (go_big_quiet_step (first | (go_at_call 99; exact gw_of (C.out _ (k0 _)))))
      refine wpQuiet_nil ?_
      intro _ hw'
      obtain ⟨pp, hw''⟩ := hw'
      subst hw''
      clear k0 k1 kt0 kt1 kt2 kt3 kt4 ku0 ku1 ku2 ku3 ku4 hself hself' hne
      cases a
      · go_wp2
        go_ret
        exact ⟨rfl, pp.gr⟩
      · go_wp2
        go_ret
        exact ⟨rfl, pp.gr⟩
    · have h2z : ¬ (r : Int) < (n : Int) := by omega
      have d2 : decide ((r : Int) < (n : Int)) = false := by simp; omega
      have hv : fb k T n s = (l : Int) := by
        unfold fb
        rw [if_neg h1, ← hl, ← hr]
        simp [h2]
      rw [hv]
      have k1 := gw_cell c1
      clear h hv hl hr h1z h2z
      go_enter Tryd.func98, Tryd.ntmps98
      go_wp2_with fail
      have hne : Nonempty (GW w) := ⟨⟨w, Ke.refl _ _⟩⟩
      have hself := @gw_self w
      have hself' : ∀ p : GW w, ∃ q : GW w, q.W = p.W := fun p => ⟨p, rfl⟩
      refine wp_region_gw (by kernel_rfl) (by kernel_rfl) ?_
      repeat (go_big_quiet_step (fail))
      refine wpQuiet_nil ?_
      intro _ hw'
      obtain ⟨pp, hw''⟩ := hw'
      subst hw''
      clear k1 hself hself' hne
      go_wp2
      go_ret
      exact ⟨rfl, pp.gr⟩
end Go.Proofs.YtlpjojegdnconaaDoor.Ca
