/- Tasks, plain: what each is, the list of them by id, what each call does to it. Tasks, plain: what the slots hold and the list of tasks; the calendar's entries. Tasks, plain: what Settle does, one id after another; the calendar's entries. The block of jobs in memory: the table, the row of tasks, the calendar; what turns one part leaves the others. Tasks: contracts of the methods of one task; may. -/
import Derived.Test.YtlpjojegdnconaaDoorL8
import Derived.Test.YtlpjojegdnconaaDoorR7
import Derived.Deep.QuietTactic
namespace Go.Proofs.YtlpjojegdnconaaDoor
open Go.RowKit Go.Lib
set_option linter.unusedVariables false

/-- A task, plain. -/
structure Tk where
  id : Int
  e : Int
  p : Int
  sp : Bool
  le : Bool
  wa : Bool
  ac : Bool
  r : Int
  g : Int
  dn : Bool
  ct : Int
  deriving DecidableEq, Inhabited

def zeroT : Tk := ⟨0, 0, 0, false, false, false, false, 0, 0, false, 0⟩
def canT (e p : Int) : Bool := decide (1 ≤ e) && decide (e ≤ p) && decide (p ≤ 1048575)
def newT (id e p : Int) (sp : Bool) : Tk := ⟨id, e, p, sp, false, false, false, 0, 0, false, 0⟩
def ready (x : Tk) : Bool := !x.ac && (!x.sp || x.wa)
def begT (t : Int) (x : Tk) : Tk := { x with ac := true, wa := false, r := t, ct := x.ct + 1 }
def endT (x : Tk) : Tk := { x with ac := false, dn := false, r := 0, g := 0 }
def leaT (x : Tk) : Tk := { x with le := true }
def waiT (x : Tk) : Tk := { x with wa := true }
def donT (x : Tk) : Tk := { x with dn := true }
def givT (x : Tk) : Tk := { x with g := x.g + 1 }

/-- What holds of every task when at most c jobs began. -/
structure OkT (c : Nat) (x : Tk) : Prop where
  wf : (Lit.int .i64 x.id).wf = true
  e1 : 1 ≤ x.e
  ep : x.e ≤ x.p
  pm : x.p ≤ 1048575
  g0 : 0 ≤ x.g
  ge : x.g ≤ x.e
  c0 : 0 ≤ x.ct
  cc : x.ct ≤ c
  r0 : 0 ≤ x.r
  rm : x.r ≤ 1000000000000
  off : x.ac = false → x.r = 0 ∧ x.g = 0 ∧ x.dn = false ∧ x.le = false

section
variable {c : Nat} {x : Tk}
theorem OkT.more (h : OkT c x) {c' : Nat} (hc : c ≤ c') : OkT c' x := { h with cc := by have := h.cc; omega }
theorem okT_new {id e p : Int} {sp : Bool} (hi : (Lit.int .i64 id).wf = true) (hc : canT e p = true) : OkT c (newT id e p sp) := by
  unfold canT at hc
  simp at hc
  exact ⟨hi, by show 1 ≤ e; omega, by show e ≤ p; omega, by show p ≤ 1048575; omega, Int.le_refl 0, by show 0 ≤ e; omega, Int.le_refl 0, by show (0 : Int) ≤ c; omega, Int.le_refl 0, by show (0 : Int) ≤ 1000000000000; omega, fun _ => ⟨rfl, rfl, rfl, rfl⟩⟩
theorem OkT.beg (h : OkT c x) {t : Int} (h0 : 0 ≤ t) (hm : t ≤ 1000000000000) : OkT (c + 1) (begT t x) :=
  ⟨h.wf, h.e1, h.ep, h.pm, h.g0, h.ge, by have := h.c0; show 0 ≤ x.ct + 1; omega, by have := h.cc; show x.ct + 1 ≤ ((c + 1 : Nat) : Int); omega, h0, hm, fun q => by cases q⟩
theorem OkT.end (h : OkT c x) (hl : x.le = false) : OkT c (endT x) :=
  ⟨h.wf, h.e1, h.ep, h.pm, Int.le_refl 0, by have := h.e1; show 0 ≤ x.e; omega, h.c0, h.cc, Int.le_refl 0, by show (0 : Int) ≤ 1000000000000; omega, fun _ => ⟨rfl, rfl, rfl, hl⟩⟩
theorem OkT.lea (h : OkT c x) (ha : x.ac = true) : OkT c (leaT x) := { h with off := fun q => by rw [show (leaT x).ac = x.ac from rfl, ha] at q; cases q }
theorem OkT.wai (h : OkT c x) : OkT c (waiT x) := { h with }
theorem OkT.don (h : OkT c x) (ha : x.ac = true) : OkT c (donT x) := { h with off := fun q => by rw [show (donT x).ac = x.ac from rfl, ha] at q; cases q }
theorem OkT.giv (h : OkT c x) (ha : x.ac = true) (hg : x.g ≠ x.e) : OkT c (givT x) :=
  { h with g0 := by have := h.g0; show 0 ≤ x.g + 1; omega, ge := by have := h.ge; show x.g + 1 ≤ x.e; omega, off := fun q => by rw [show (givT x).ac = x.ac from rfl, ha] at q; cases q }
end

/-! ### the list -/
def getT (S : List Tk) (i : Int) : Option Tk := S.find? fun x => decide (x.id = i)
def setT (S : List Tk) (x : Tk) : List Tk := S.map fun y => if y.id = x.id then x else y
def delT (S : List Tk) (i : Int) : List Tk := S.filter fun y => decide (y.id ≠ i)
def insT (x : Tk) : List Tk → List Tk
  | [] => [x]
  | y :: r => if y.id < x.id then y :: insT x r else x :: y :: r
def relT (t : Int) (S : List Tk) : List Tk := S.map fun x => if ready x then begT t x else x
def relI (S : List Tk) : List Int := (S.filter ready).map Tk.id
def dueT (t : Int) (x : Tk) : Bool := x.ac && decide (x.r + x.p ≤ t)
def lgT (t : Int) (x : Tk) : Bool := dueT t x && x.le
def msT (t : Int) (x : Tk) : Bool := dueT t x && decide (x.g ≠ x.e)
def stlT (t : Int) (S : List Tk) : List Tk := (S.filter fun x => !lgT t x).map fun x => if dueT t x then endT x else x
def stlI (t : Int) (S : List Tk) : List Int := (S.filter (lgT t)).map Tk.id
def stlN (t : Int) (S : List Tk) : Nat := S.countP (msT t)

def Srt (S : List Tk) : Prop := S.Pairwise fun x y => x.id < y.id
section
variable {S S' : List Tk}
theorem Srt.inj (h : Srt S) {x y : Tk} (hx : x ∈ S) (hy : y ∈ S) (e : x.id = y.id) : x = y := by
  induction S with
  | nil => cases hx
  | cons z r ih =>
    obtain ⟨h1, h2⟩ := List.pairwise_cons.1 h
    rcases List.mem_cons.1 hx with rfl | hx'
    · rcases List.mem_cons.1 hy with rfl | hy'
      · rfl
      · have := h1 _ hy'; omega
    · rcases List.mem_cons.1 hy with rfl | hy'
      · have := h1 _ hx'; omega
      · exact ih h2 hx' hy'
theorem Srt.filter (h : Srt S) (q : Tk → Bool) : Srt (S.filter q) := List.Pairwise.filter q h
theorem Srt.map (h : Srt S) {f : Tk → Tk} (hf : ∀ x, (f x).id = x.id) : Srt (S.map f) := List.pairwise_map.2 (h.imp (fun {a b} q => by rw [hf, hf]; exact q))
theorem Srt.ids (h : Srt S) : (S.map Tk.id).Pairwise (· < ·) := List.pairwise_map.2 h
theorem Srt.nodup (h : Srt S) : S.Nodup := h.imp (fun {a b} q e => by rw [e] at q; omega)
theorem lt_nodup {l : List Int} (h : l.Pairwise (· < ·)) : l.Nodup := h.imp (fun {a b} q e => by omega)
/-- Rising rows of the same numbers are the same. -/
theorem lt_unique {l l' : List Int} (h : l.Pairwise (· < ·)) (h' : l'.Pairwise (· < ·)) (m : ∀ x, x ∈ l ↔ x ∈ l') : l = l' :=
  ((List.perm_ext_iff_of_nodup (lt_nodup h) (lt_nodup h')).2 m).eq_of_pairwise (fun a b _ _ x y => by omega) h h'
theorem Srt.unique (h : Srt S) (h' : Srt S') (m : ∀ x, x ∈ S ↔ x ∈ S') : S = S' :=
  ((List.perm_ext_iff_of_nodup h.nodup h'.nodup).2 m).eq_of_pairwise (fun a b _ _ x y => by omega) h h'
theorem mem_insT {x y : Tk} : ∀ {S : List Tk}, y ∈ insT x S ↔ y = x ∨ y ∈ S
  | [] => by simp [insT]
  | z :: r => by
    unfold insT
    split
    · rw [List.mem_cons, mem_insT, List.mem_cons]
      constructor
      · rintro (h | h | h)
        · exact .inr (.inl h)
        · exact .inl h
        · exact .inr (.inr h)
      · rintro (h | h | h)
        · exact .inr (.inl h)
        · exact .inl h
        · exact .inr (.inr h)
    · simp
theorem Srt.ins {x : Tk} : ∀ {S : List Tk}, Srt S → (∀ y, y ∈ S → y.id ≠ x.id) → Srt (insT x S)
  | [], _, _ => by simp [insT, Srt]
  | z :: r, h, hn => by
    obtain ⟨h1, h2⟩ := List.pairwise_cons.1 h
    unfold insT
    split
    · next q =>
      refine List.pairwise_cons.2 ⟨fun y hy => ?_, Srt.ins h2 (fun y hy => hn y (List.mem_cons_of_mem _ hy))⟩
      rcases mem_insT.1 hy with rfl | hy
      · exact q
      · exact h1 y hy
    · next q =>
      have := hn z (List.mem_cons_self ..)
      refine List.pairwise_cons.2 ⟨fun y hy => ?_, h⟩
      rcases List.mem_cons.1 hy with rfl | hy
      · omega
      · have := h1 y hy; omega
theorem mem_setT {x y : Tk} (hx : ∃ z, z ∈ S ∧ z.id = x.id) : y ∈ setT S x ↔ y = x ∨ (y ∈ S ∧ y.id ≠ x.id) := by
  unfold setT
  rw [List.mem_map]
  constructor
  · rintro ⟨z, hz, rfl⟩
    by_cases e : z.id = x.id
    · rw [if_pos e]; exact .inl rfl
    · rw [if_neg e]; exact .inr ⟨hz, e⟩
  · rintro (rfl | ⟨hy, e⟩)
    · obtain ⟨z, hz, e⟩ := hx
      exact ⟨z, hz, by rw [if_pos e]⟩
    · exact ⟨y, hy, by rw [if_neg e]⟩
theorem Srt.set (h : Srt S) (x : Tk) : Srt (setT S x) := h.map (fun y => by split <;> simp_all)
theorem mem_delT {i : Int} {y : Tk} : y ∈ delT S i ↔ y ∈ S ∧ y.id ≠ i := by unfold delT; rw [List.mem_filter]; simp
theorem Srt.del (h : Srt S) (i : Int) : Srt (delT S i) := h.filter _
theorem getT_some {x : Tk} (h : Srt S) (hx : x ∈ S) : getT S x.id = some x := by
  unfold getT
  cases q : S.find? fun y => decide (y.id = x.id) with
  | none =>
    rw [List.find?_eq_none] at q
    have := q x hx
    simp at this
  | some y =>
    have h1 := List.find?_some q
    have h2 := List.mem_of_find?_eq_some q
    rw [h.inj h2 hx (by simpa using h1)]
theorem getT_none {i : Int} (hx : ∀ x, x ∈ S → x.id ≠ i) : getT S i = none := by
  unfold getT
  rw [List.find?_eq_none]
  intro x h
  simp [hx x h]
theorem getT_mem {i : Int} {x : Tk} (h : getT S i = some x) : x ∈ S ∧ x.id = i := ⟨List.mem_of_find?_eq_some h, by simpa using List.find?_some h⟩
theorem ready_id (t : Int) (x : Tk) : (if ready x then begT t x else x).id = x.id := by split <;> rfl
theorem Srt.rel (h : Srt S) (t : Int) : Srt (relT t S) := h.map (ready_id t)
theorem due_id (t : Int) (x : Tk) : (if dueT t x then endT x else x).id = x.id := by split <;> rfl
theorem Srt.stl (h : Srt S) (t : Int) : Srt (stlT t S) := (h.filter _).map (due_id t)
end
end Go.Proofs.YtlpjojegdnconaaDoor

namespace Go.Proofs.YtlpjojegdnconaaDoor
open Go.RowKit Go.Lib
set_option linter.unusedVariables false

/-- The slots: an id that stands there, and its task. -/
structure At (c : Nat) (A : Nat → Option Int) (T : Nat → Tk) : Prop where
  id : ∀ s i, A s = some i → (T s).id = i
  ok : ∀ s i, A s = some i → OkT c (T s)
  inj : ∀ s t i, A s = some i → A t = some i → s = t
/-- The list says what the slots hold. -/
structure Sl (S : List Tk) (A : Nat → Option Int) (T : Nat → Tk) : Prop where
  srt : Srt S
  mem : ∀ x, x ∈ S ↔ ∃ s, A s = some x.id ∧ T s = x

section
variable {c : Nat} {S : List Tk} {A : Nat → Option Int} {T : Nat → Tk}
theorem At.more (a : At c A T) {c' : Nat} (h : c ≤ c') : At c' A T := ⟨a.id, fun s i q => (a.ok s i q).more h, a.inj⟩
theorem Sl.at_ (h : Sl S A T) (a : At c A T) {s : Nat} {i : Int} (hs : A s = some i) : T s ∈ S := (h.mem (T s)).2 ⟨s, by rw [a.id s i hs]; exact hs, rfl⟩
theorem Sl.get (h : Sl S A T) (a : At c A T) {s : Nat} {i : Int} (hs : A s = some i) : getT S i = some (T s) := by
  have := getT_some h.srt (h.at_ a hs)
  rwa [a.id s i hs] at this
theorem Sl.no (h : Sl S A T) {i : Int} (hn : ∀ s, A s ≠ some i) : getT S i = none := getT_none (fun x hx e => by
  obtain ⟨s, hs, _⟩ := (h.mem x).1 hx
  exact hn s (by rw [hs, e]))
theorem Sl.back (h : Sl S A T) {i : Int} {x : Tk} (hx : getT S i = some x) : ∃ s, A s = some i ∧ T s = x := by
  obtain ⟨hm, e⟩ := getT_mem hx
  obtain ⟨s, h1, h2⟩ := (h.mem x).1 hm
  exact ⟨s, by rw [h1, e], h2⟩
theorem Sl.not_at (h : Sl S A T) (a : At c A T) {i : Int} (hx : getT S i = none) : ∀ s, A s ≠ some i := fun s hs => by
  rw [h.get a hs] at hx; cases hx
theorem Sl.ids (h : Sl S A T) (a : At c A T) {l : List Int} (hl : l.Pairwise (· < ·)) (hm : ∀ x, x ∈ l ↔ ∃ s, A s = some x) : l = S.map Tk.id := by
  refine lt_unique hl h.srt.ids (fun x => ?_)
  rw [hm, List.mem_map]
  constructor
  · rintro ⟨s, hs⟩
    exact ⟨T s, h.at_ a hs, a.id s x hs⟩
  · rintro ⟨y, hy, rfl⟩
    obtain ⟨s, hs, _⟩ := (h.mem y).1 hy
    exact ⟨s, hs⟩

/-! ### one task turned, one more, one less -/
theorem At.set (a : At c A T) {s : Nat} {i : Int} (hs : A s = some i) {x : Tk} (hx : x.id = i) (ok : OkT c x) : At c A (upd T s x) := by
  refine ⟨fun t j q => ?_, fun t j q => ?_, a.inj⟩
  · by_cases e : t = s
    · subst e; rw [upd_same, hx]; rw [hs] at q; cases q; rfl
    · rw [upd_other _ _ e]; exact a.id t j q
  · by_cases e : t = s
    · subst e; rw [upd_same]; exact ok
    · rw [upd_other _ _ e]; exact a.ok t j q
theorem Sl.set (h : Sl S A T) (a : At c A T) {s : Nat} {i : Int} (hs : A s = some i) {x : Tk} (hx : x.id = i) : Sl (setT S x) A (upd T s x) := by
  refine ⟨h.srt.set x, fun y => ?_⟩
  rw [mem_setT ⟨T s, h.at_ a hs, by rw [a.id s i hs, hx]⟩]
  constructor
  · rintro (rfl | ⟨hy, e⟩)
    · exact ⟨s, by rw [hx]; exact hs, upd_same _ _ _⟩
    · obtain ⟨t, h1, h2⟩ := (h.mem y).1 hy
      refine ⟨t, h1, ?_⟩
      rw [upd_other _ _ (fun q => by subst q; rw [hs] at h1; cases h1; exact e hx.symm)]
      exact h2
  · rintro ⟨t, h1, h2⟩
    by_cases e : t = s
    · subst e; rw [upd_same] at h2; exact .inl h2.symm
    · rw [upd_other _ _ e] at h2
      refine .inr ⟨(h.mem y).2 ⟨t, h1, h2⟩, fun q => e (a.inj t s i (by rw [h1, q, hx]) hs)⟩
theorem At.ins (a : At c A T) {s : Nat} (h0 : A s = none) {x : Tk} (hn : ∀ t, A t ≠ some x.id) (ok : OkT c x) : At c (upd A s (some x.id)) (upd T s x) := by
  refine ⟨fun t j q => ?_, fun t j q => ?_, fun t u j q r => ?_⟩
  · by_cases e : t = s
    · subst e; rw [upd_same] at q ⊢; cases q; rfl
    · rw [upd_other _ _ e] at q ⊢; exact a.id t j q
  · by_cases e : t = s
    · subst e; rw [upd_same]; exact ok
    · rw [upd_other _ _ e] at q ⊢; exact a.ok t j q
  · by_cases e : t = s
    · by_cases e2 : u = s
      · rw [e, e2]
      · subst e; rw [upd_same] at q; cases q; rw [upd_other _ _ e2] at r; exact absurd r (hn u)
    · rw [upd_other _ _ e] at q
      by_cases e2 : u = s
      · subst e2; rw [upd_same] at r; cases r; exact absurd q (hn t)
      · rw [upd_other _ _ e2] at r; exact a.inj t u j q r
theorem Sl.ins (h : Sl S A T) {s : Nat} (h0 : A s = none) {x : Tk} (hn : ∀ t, A t ≠ some x.id) : Sl (insT x S) (upd A s (some x.id)) (upd T s x) := by
  refine ⟨h.srt.ins (fun y hy e => by
    obtain ⟨t, h1, _⟩ := (h.mem y).1 hy
    exact hn t (by rw [h1, e])), fun y => ?_⟩
  rw [mem_insT]
  constructor
  · rintro (rfl | hy)
    · exact ⟨s, upd_same _ _ _, upd_same _ _ _⟩
    · obtain ⟨t, h1, h2⟩ := (h.mem y).1 hy
      have e : t ≠ s := fun e => by subst e; rw [h0] at h1; cases h1
      exact ⟨t, by rw [upd_other _ _ e]; exact h1, by rw [upd_other _ _ e]; exact h2⟩
  · rintro ⟨t, h1, h2⟩
    by_cases e : t = s
    · subst e; rw [upd_same] at h2; exact .inl h2.symm
    · rw [upd_other _ _ e] at h1 h2; exact .inr ((h.mem y).2 ⟨t, h1, h2⟩)
theorem At.del (a : At c A T) {s : Nat} {T' : Nat → Tk} (hT : ∀ t, t ≠ s → T' t = T t) : At c (upd A s none) T' := by
  have key : ∀ t j, upd A s none t = some j → t ≠ s ∧ A t = some j := fun t j q => by
    by_cases e : t = s
    · subst e; rw [upd_same] at q; cases q
    · rw [upd_other _ _ e] at q; exact ⟨e, q⟩
  refine ⟨fun t j q => ?_, fun t j q => ?_, fun t u j q r => a.inj t u j (key t j q).2 (key u j r).2⟩
  · rw [hT t (key t j q).1]; exact a.id t j (key t j q).2
  · rw [hT t (key t j q).1]; exact a.ok t j (key t j q).2
theorem Sl.del (h : Sl S A T) (a : At c A T) {s : Nat} {i : Int} (hs : A s = some i) {T' : Nat → Tk} (hT : ∀ t, t ≠ s → T' t = T t) : Sl (delT S i) (upd A s none) T' := by
  refine ⟨h.srt.del i, fun y => ?_⟩
  rw [mem_delT]
  constructor
  · rintro ⟨hy, e⟩
    obtain ⟨t, h1, h2⟩ := (h.mem y).1 hy
    have q : t ≠ s := fun q => by subst q; rw [hs] at h1; cases h1; exact e rfl
    exact ⟨t, by rw [upd_other _ _ q]; exact h1, by rw [hT t q]; exact h2⟩
  · rintro ⟨t, h1, h2⟩
    by_cases q : t = s
    · subst q; rw [upd_same] at h1; cases h1
    · rw [upd_other _ _ q] at h1
      rw [hT t q] at h2
      exact ⟨(h.mem y).2 ⟨t, h1, h2⟩, fun e => q (a.inj t s i (by rw [h1, e]) hs)⟩

/-! ### Release -/
/-- The tasks when the first k slots were looked at. -/
def TR (t : Int) (A : Nat → Option Int) (T : Nat → Tk) (k s : Nat) : Tk := if s < k ∧ (A s).isSome = true ∧ ready (T s) = true then begT t (T s) else T s
/-- The ids that were released. -/
def rI (A : Nat → Option Int) (T : Nat → Tk) : Nat → List Int
  | 0 => []
  | k + 1 => rI A T k ++ (if (A k).isSome = true ∧ ready (T k) = true then [(T k).id] else [])
theorem TR_zero (t : Int) : TR t A T 0 = T := by funext s; unfold TR; rw [if_neg (by omega)]
theorem TR_at (t : Int) (k : Nat) : TR t A T k k = T k := by unfold TR; rw [if_neg (by omega)]
theorem TR_yes (t : Int) {k : Nat} (h1 : (A k).isSome = true) (h2 : ready (T k) = true) : TR t A T (k + 1) = upd (TR t A T k) k (begT t (T k)) := by
  funext s
  by_cases e : s = k
  · subst e; rw [upd_same]; unfold TR; rw [if_pos ⟨by omega, h1, h2⟩]
  · rw [upd_other _ _ e]
    unfold TR
    by_cases q : s < k
    · by_cases r : (A s).isSome = true ∧ ready (T s) = true
      · rw [if_pos ⟨by omega, r⟩, if_pos ⟨q, r⟩]
      · rw [if_neg (fun z => r z.2), if_neg (fun z => r z.2)]
    · rw [if_neg (fun z => by omega), if_neg (fun z => q z.1)]
theorem TR_no (t : Int) {k : Nat} (h : ¬ ((A k).isSome = true ∧ ready (T k) = true)) : TR t A T (k + 1) = TR t A T k := by
  funext s
  unfold TR
  by_cases e : s = k
  · subst e; rw [if_neg (fun z => h z.2), if_neg (fun z => by omega)]
  · by_cases q : s < k
    · by_cases r : (A s).isSome = true ∧ ready (T s) = true
      · rw [if_pos ⟨by omega, r⟩, if_pos ⟨q, r⟩]
      · rw [if_neg (fun z => r z.2), if_neg (fun z => r z.2)]
    · rw [if_neg (fun z => by omega), if_neg (fun z => q z.1)]
theorem mem_rI {x : Int} : ∀ {k : Nat}, x ∈ rI A T k ↔ ∃ s, s < k ∧ (A s).isSome = true ∧ ready (T s) = true ∧ (T s).id = x
  | 0 => by simp [rI]
  | k + 1 => by
    unfold rI
    rw [List.mem_append, mem_rI]
    constructor
    · rintro (⟨s, h1, h2⟩ | h)
      · exact ⟨s, by omega, h2⟩
      · split at h
        · next q => exact ⟨k, by omega, q.1, q.2, (List.mem_singleton.1 h).symm⟩
        · cases h
    · rintro ⟨s, h1, h2, h3, h4⟩
      by_cases e : s = k
      · subst e; rw [if_pos ⟨h2, h3⟩]; exact .inr (by simp [h4])
      · exact .inl ⟨s, by omega, h2, h3, h4⟩
theorem rI_len : ∀ k, (rI A T k).length ≤ k
  | 0 => Nat.le_refl _
  | k + 1 => by
    unfold rI
    rw [List.length_append]
    have := rI_len k
    split <;> simp <;> omega
theorem rI_nodup (a : At c A T) : ∀ k, (rI A T k).Nodup
  | 0 => List.nodup_nil
  | k + 1 => by
    unfold rI
    split
    · next q =>
      refine List.nodup_append.2 ⟨rI_nodup a k, by simp, fun x hx y hy e => ?_⟩
      obtain ⟨s, h1, h2, h3, h4⟩ := mem_rI.1 hx
      have hy' : y = (T k).id := by simpa using hy
      obtain ⟨i, hi⟩ := Option.isSome_iff_exists.1 h2
      obtain ⟨j, hj⟩ := Option.isSome_iff_exists.1 q.1
      have e1 := a.id s i hi
      have e2 := a.id k j hj
      have : s = k := a.inj s k i hi (by rw [hj, ← e2, ← hy', ← e, ← h4, e1])
      omega
    · rw [List.append_nil]; exact rI_nodup a k
theorem Sl.rel (h : Sl S A T) (a : At c A T) (t : Int) {m : Nat} (hm : ∀ s, A s ≠ none → s < m) : Sl (relT t S) A (TR t A T m) := by
  refine ⟨h.srt.rel t, fun y => ?_⟩
  unfold relT
  rw [List.mem_map]
  have key : ∀ s i, A s = some i → TR t A T m s = if ready (T s) then begT t (T s) else T s := fun s i hs => by
    unfold TR
    have h1 := hm s (by rw [hs]; simp)
    by_cases r : ready (T s) = true
    · rw [if_pos ⟨h1, by rw [hs]; rfl, r⟩, if_pos r]
    · rw [if_neg (fun z => r z.2.2), if_neg r]
  constructor
  · rintro ⟨x, hx, rfl⟩
    obtain ⟨s, h1, rfl⟩ := (h.mem x).1 hx
    exact ⟨s, by rw [ready_id]; exact h1, key s _ h1⟩
  · rintro ⟨s, h1, h2⟩
    rw [key s _ h1] at h2
    refine ⟨T s, h.at_ a h1, h2⟩
theorem Sl.relI (h : Sl S A T) (a : At c A T) {m : Nat} (hm : ∀ s, A s ≠ none → s < m) : (rI A T m).mergeSort (fun x y => decide (x ≤ y)) = relI S := by
  unfold YtlpjojegdnconaaDoor.relI
  refine lt_unique (sorted_lt (rI_nodup a m)) (h.srt.filter _).ids (fun x => ?_)
  rw [(List.mergeSort_perm _ _).mem_iff, mem_rI, List.mem_map]
  constructor
  · rintro ⟨s, h1, h2, h3, h4⟩
    obtain ⟨i, hi⟩ := Option.isSome_iff_exists.1 h2
    exact ⟨T s, List.mem_filter.2 ⟨h.at_ a hi, h3⟩, h4⟩
  · rintro ⟨y, hy, rfl⟩
    obtain ⟨h1, h2⟩ := List.mem_filter.1 hy
    obtain ⟨s, h3, rfl⟩ := (h.mem y).1 h1
    exact ⟨s, hm s (by rw [h3]; simp), by rw [h3]; rfl, h2, rfl⟩
theorem At.rel (a : At c A T) {t : Int} (h0 : 0 ≤ t) (ht : t ≤ 1000000000000) (k : Nat) (x : Nat) : At (c + 1) A (TR t A T k) := by
  refine ⟨fun s i hs => ?_, fun s i hs => ?_, a.inj⟩
  · unfold TR; split
    · exact a.id s i hs
    · exact a.id s i hs
  · unfold TR; split
    · exact (a.ok s i hs).beg h0 ht
    · exact (a.ok s i hs).more (Nat.le_succ c)
end
end Go.Proofs.YtlpjojegdnconaaDoor

namespace Go.Proofs.YtlpjojegdnconaaDoor
open Go.RowKit Go.Lib
open Ca (Ky le2)
set_option linter.unusedVariables false

/-- The slots when the ids P were settled. -/
def AS (A : Nat → Option Int) (T : Nat → Tk) (P : List Int) (s : Nat) : Option Int := if ∃ i, A s = some i ∧ i ∈ P ∧ (T s).le = true then none else A s
def TS (A : Nat → Option Int) (T : Nat → Tk) (P : List Int) (s : Nat) : Tk := if ∃ i, A s = some i ∧ i ∈ P then (if (T s).le = true then zeroT else endT (T s)) else T s
/-- Who is leaving, who got too little. -/
def leS (S : List Tk) (i : Int) : Bool := match getT S i with | some x => x.le | none => false
def neS (S : List Tk) (i : Int) : Bool := match getT S i with | some x => decide (x.g ≠ x.e) | none => false

section
variable {c : Nat} {S : List Tk} {A : Nat → Option Int} {T : Nat → Tk}
theorem AS_nil : AS A T [] = A := by funext s; unfold AS; rw [if_neg (by rintro ⟨i, _, h, _⟩; cases h)]
theorem TS_nil : TS A T [] = T := by funext s; unfold TS; rw [if_neg (by rintro ⟨i, _, h⟩; cases h)]
theorem AS_some {P : List Int} {s : Nat} {i : Int} (h : AS A T P s = some i) : A s = some i ∧ ¬ (i ∈ P ∧ (T s).le = true) := by
  unfold AS at h
  split at h
  · cases h
  · next q => exact ⟨h, fun z => q ⟨i, h, z⟩⟩
theorem AS_none {P : List Int} {s : Nat} (h : A s = none) : AS A T P s = none := by
  unfold AS; rw [h]; simp
theorem AS_in {P : List Int} {s : Nat} {i : Int} (hs : A s = some i) (hi : i ∉ P) : AS A T P s = some i ∧ TS A T P s = T s := by
  constructor
  · unfold AS; rw [if_neg (by rintro ⟨j, h1, h2, _⟩; rw [hs] at h1; cases h1; exact hi h2)]; exact hs
  · unfold TS; rw [if_neg (by rintro ⟨j, h1, h2⟩; rw [hs] at h1; cases h1; exact hi h2)]
theorem AS_stay (a : At c A T) {P : List Int} {s : Nat} {i : Int} (hs : A s = some i) (hl : (T s).le = false) : AS A T (P ++ [i]) = AS A T P := by
  funext t
  unfold AS
  by_cases q : ∃ j, A t = some j ∧ j ∈ P ∧ (T t).le = true
  · obtain ⟨j, h1, h2, h3⟩ := q
    rw [if_pos ⟨j, h1, List.mem_append_left _ h2, h3⟩, if_pos ⟨j, h1, h2, h3⟩]
  · rw [if_neg q, if_neg]
    rintro ⟨j, h1, h2, h3⟩
    rcases List.mem_append.1 h2 with h2 | h2
    · exact q ⟨j, h1, h2, h3⟩
    · rw [List.mem_singleton.1 h2] at h1
      rw [a.inj t s i h1 hs, hl] at h3; cases h3
theorem AS_go (a : At c A T) {P : List Int} {s : Nat} {i : Int} (hs : A s = some i) (hl : (T s).le = true) : AS A T (P ++ [i]) = upd (AS A T P) s none := by
  funext t
  by_cases e : t = s
  · subst e; rw [upd_same]; unfold AS; rw [if_pos ⟨i, hs, by simp, hl⟩]
  · rw [upd_other _ _ e]
    unfold AS
    by_cases q : ∃ j, A t = some j ∧ j ∈ P ∧ (T t).le = true
    · obtain ⟨j, h1, h2, h3⟩ := q
      rw [if_pos ⟨j, h1, List.mem_append_left _ h2, h3⟩, if_pos ⟨j, h1, h2, h3⟩]
    · rw [if_neg q, if_neg]
      rintro ⟨j, h1, h2, h3⟩
      rcases List.mem_append.1 h2 with h2 | h2
      · exact q ⟨j, h1, h2, h3⟩
      · rw [List.mem_singleton.1 h2] at h1
        exact e (a.inj t s i h1 hs)
theorem TS_step (a : At c A T) {P : List Int} {s : Nat} {i : Int} (hs : A s = some i) : TS A T (P ++ [i]) = upd (TS A T P) s (if (T s).le = true then zeroT else endT (T s)) := by
  funext t
  by_cases e : t = s
  · subst e; rw [upd_same]; unfold TS; rw [if_pos ⟨i, hs, by simp⟩]
  · rw [upd_other _ _ e]
    unfold TS
    by_cases q : ∃ j, A t = some j ∧ j ∈ P
    · obtain ⟨j, h1, h2⟩ := q
      rw [if_pos (show ∃ j, A t = some j ∧ j ∈ P ++ [i] from ⟨j, h1, List.mem_append_left _ h2⟩), if_pos (show ∃ j, A t = some j ∧ j ∈ P from ⟨j, h1, h2⟩)]
    · rw [if_neg q, if_neg]
      rintro ⟨j, h1, h2⟩
      rcases List.mem_append.1 h2 with h2 | h2
      · exact q ⟨j, h1, h2⟩
      · rw [List.mem_singleton.1 h2] at h1
        exact e (a.inj t s i h1 hs)
theorem At.stl (a : At c A T) (P : List Int) : At c (AS A T P) (TS A T P) := by
  refine ⟨fun s i hs => ?_, fun s i hs => ?_, fun s t i h1 h2 => a.inj s t i (AS_some h1).1 (AS_some h2).1⟩
  · obtain ⟨h1, h2⟩ := AS_some hs
    unfold TS
    split
    · next q =>
      obtain ⟨j, h3, h4⟩ := q
      rw [h1] at h3; cases h3
      rw [if_neg (fun z => h2 ⟨h4, z⟩)]
      exact a.id s i h1
    · exact a.id s i h1
  · obtain ⟨h1, h2⟩ := AS_some hs
    unfold TS
    split
    · next q =>
      obtain ⟨j, h3, h4⟩ := q
      rw [h1] at h3; cases h3
      rw [if_neg (fun z => h2 ⟨h4, z⟩)]
      exact (a.ok s i h1).end (by
        cases e : (T s).le
        · rfl
        · exact absurd ⟨h4, e⟩ h2)
    · exact a.ok s i h1
/-- The ids P are those whose job's deadline is t or earlier. -/
def IsDue (A : Nat → Option Int) (T : Nat → Tk) (t : Int) (P : List Int) : Prop := ∀ i, i ∈ P ↔ ∃ s, A s = some i ∧ dueT t (T s) = true
theorem IsDue.at_ (a : At c A T) {t : Int} {P : List Int} (d : IsDue A T t P) {s : Nat} {i : Int} (hs : A s = some i) : i ∈ P ↔ dueT t (T s) = true := by
  rw [d i]
  constructor
  · rintro ⟨u, h1, h2⟩
    rwa [a.inj u s i h1 hs] at h2
  · exact fun h => ⟨s, hs, h⟩
theorem Sl.stl (h : Sl S A T) (a : At c A T) {t : Int} {P : List Int} (d : IsDue A T t P) : Sl (stlT t S) (AS A T P) (TS A T P) := by
  refine ⟨h.srt.stl t, fun y => ?_⟩
  unfold stlT
  rw [List.mem_map]
  have key : ∀ s i, A s = some i → lgT t (T s) = false → AS A T P s = some i ∧ TS A T P s = if dueT t (T s) = true then endT (T s) else T s := fun s i hs hl => by
    by_cases e : dueT t (T s) = true
    · have hp := (d.at_ a hs).2 e
      have hle : (T s).le = false := by unfold lgT at hl; rw [e] at hl; simpa using hl
      constructor
      · unfold AS; rw [if_neg (by rintro ⟨j, _, _, h3⟩; rw [hle] at h3; cases h3)]; exact hs
      · unfold TS; rw [if_pos ⟨i, hs, hp⟩, if_pos e, if_neg (by rw [hle]; simp)]
    · obtain ⟨h1, h2⟩ := AS_in (T := T) hs (fun z => e ((d.at_ a hs).1 z))
      exact ⟨h1, by rw [if_neg e]; exact h2⟩
  constructor
  · rintro ⟨x, hx, rfl⟩
    obtain ⟨h1, h2⟩ := List.mem_filter.1 hx
    obtain ⟨s, h3, rfl⟩ := (h.mem x).1 h1
    obtain ⟨k1, k2⟩ := key s _ h3 (by simpa using h2)
    exact ⟨s, by rw [due_id]; exact k1, k2⟩
  · rintro ⟨s, h1, h2⟩
    obtain ⟨h3, h4⟩ := AS_some h1
    have hl : lgT t (T s) = false := by
      cases e : lgT t (T s)
      · rfl
      · unfold lgT at e
        simp only [Bool.and_eq_true] at e
        exact absurd ⟨(d.at_ a h3).2 e.1, e.2⟩ h4
    obtain ⟨k1, k2⟩ := key s _ h3 hl
    exact ⟨T s, List.mem_filter.2 ⟨h.at_ a h3, by simp [hl]⟩, by rw [← k2]; exact h2⟩
theorem Sl.stlI (h : Sl S A T) (a : At c A T) {t : Int} {P : List Int} (d : IsDue A T t P) (nd : P.Nodup) : (P.filter (leS S)).mergeSort (fun x y => decide (x ≤ y)) = stlI t S := by
  unfold YtlpjojegdnconaaDoor.stlI
  refine lt_unique (sorted_lt (List.Pairwise.filter _ nd)) (h.srt.filter _).ids (fun x => ?_)
  rw [(List.mergeSort_perm _ _).mem_iff, List.mem_filter, List.mem_map]
  constructor
  · rintro ⟨h1, h2⟩
    obtain ⟨s, h3, h4⟩ := (d x).1 h1
    unfold leS at h2
    rw [h.get a h3] at h2
    exact ⟨T s, List.mem_filter.2 ⟨h.at_ a h3, by unfold lgT; rw [h4]; simpa using h2⟩, a.id s x h3⟩
  · rintro ⟨y, hy, rfl⟩
    obtain ⟨h1, h2⟩ := List.mem_filter.1 hy
    obtain ⟨s, h3, rfl⟩ := (h.mem y).1 h1
    unfold lgT at h2
    simp only [Bool.and_eq_true] at h2
    refine ⟨(d.at_ a h3).2 h2.1, ?_⟩
    unfold leS
    rw [h.get a h3]
    exact h2.2
theorem Sl.stlN (h : Sl S A T) (a : At c A T) {t : Int} {P : List Int} (d : IsDue A T t P) (nd : P.Nodup) : P.countP (neS S) = stlN t S := by
  have hp : P.Perm ((S.filter (dueT t)).map Tk.id) := by
    refine (List.perm_ext_iff_of_nodup nd (lt_nodup (h.srt.filter _).ids)).2 (fun x => ?_)
    rw [d x, List.mem_map]
    constructor
    · rintro ⟨s, h1, h2⟩
      exact ⟨T s, List.mem_filter.2 ⟨h.at_ a h1, h2⟩, a.id s x h1⟩
    · rintro ⟨y, hy, rfl⟩
      obtain ⟨h1, h2⟩ := List.mem_filter.1 hy
      obtain ⟨s, h3, rfl⟩ := (h.mem y).1 h1
      exact ⟨s, h3, h2⟩
  rw [hp.countP_eq, List.countP_map, List.countP_filter]
  unfold YtlpjojegdnconaaDoor.stlN
  refine List.countP_congr (fun x hx => ?_)
  have e : neS S x.id = decide (x.g ≠ x.e) := by unfold neS; rw [getT_some h.srt hx]
  unfold msT
  simp only [Function.comp, e]
  rw [Bool.and_comm]

/-! ### the calendar's entries -/
/-- The entries say which tasks have a job, and till when. -/
structure Lk (A : Nat → Option Int) (T : Nat → Tk) (L : List Ky) : Prop where
  mem : ∀ k : Ky, k ∈ L ↔ ∃ s, A s = some k.2 ∧ (T s).ac = true ∧ (T s).r + (T s).p = k.1
  nd : (L.map Prod.snd).Nodup
theorem Lk.same {L : List Ky} (h : Lk A T L) {s : Nat} {x : Tk} (h1 : x.ac = (T s).ac) (h2 : x.r = (T s).r) (h3 : x.p = (T s).p) : Lk A (upd T s x) L := by
  refine ⟨fun k => ?_, h.nd⟩
  rw [h.mem]
  refine exists_congr (fun t => ?_)
  by_cases e : t = s
  · subst e; rw [upd_same, h1, h2, h3]
  · rw [upd_other _ _ e]
theorem Lk.ins {L : List Ky} (h : Lk A T L) {s : Nat} (h0 : A s = none) {i : Int} {x : Tk} (hx : x.ac = false) : Lk (upd A s (some i)) (upd T s x) L := by
  refine ⟨fun k => ?_, h.nd⟩
  rw [h.mem]
  refine exists_congr (fun t => ?_)
  by_cases e : t = s
  · subst e; rw [upd_same, upd_same, h0, hx]; simp
  · rw [upd_other _ _ e, upd_other _ _ e]
theorem Lk.del {L : List Ky} (h : Lk A T L) {s : Nat} (h0 : (T s).ac = false) {T' : Nat → Tk} (hT : ∀ t, t ≠ s → T' t = T t) : Lk (upd A s none) T' L := by
  refine ⟨fun k => ?_, h.nd⟩
  rw [h.mem]
  refine exists_congr (fun t => ?_)
  by_cases e : t = s
  · subst e; rw [upd_same, h0]; simp
  · rw [upd_other _ _ e, hT t e]
theorem Lk.put {L : List Ky} (h : Lk A T L) (a : At c A T) {s : Nat} {i : Int} (hs : A s = some i) (h0 : (T s).ac = false) (t : Int) : Lk A (upd T s (begT t (T s))) (Ca.ins (t + (T s).p, i) L) := by
  have hni : i ∉ L.map Prod.snd := fun q => by
    obtain ⟨k, hk, rfl⟩ := List.mem_map.1 q
    obtain ⟨u, h1, h2, _⟩ := (h.mem k).1 hk
    rw [a.inj u s _ h1 hs, h0] at h2; cases h2
  refine ⟨fun k => ?_, ?_⟩
  · rw [(Ca.ins_perm _ L).mem_iff, List.mem_cons, h.mem]
    constructor
    · rintro (rfl | ⟨u, h1, h2, h3⟩)
      · exact ⟨s, hs, by rw [upd_same]; rfl, by rw [upd_same]; rfl⟩
      · have e : u ≠ s := fun e => by subst e; rw [h0] at h2; cases h2
        exact ⟨u, h1, by rw [upd_other _ _ e]; exact h2, by rw [upd_other _ _ e]; exact h3⟩
    · rintro ⟨u, h1, h2, h3⟩
      by_cases e : u = s
      · subst e
        rw [upd_same] at h3
        rw [hs] at h1
        refine .inl (Prod.ext h3.symm ?_)
        exact (Option.some.inj h1).symm
      · rw [upd_other _ _ e] at h2 h3; exact .inr ⟨u, h1, h2, h3⟩
  · refine ((Ca.ins_perm (t + (T s).p, i) L).map Prod.snd).nodup_iff.2 ?_
    rw [List.map_cons]
    exact List.nodup_cons.2 ⟨hni, h.nd⟩
/-- The first entry's job ends. -/
theorem Lk.tail {L : List Ky} {k : Ky} (h : Lk A T (k :: L)) (a : At c A T) {s : Nat} (hs : A s = some k.2) {A' : Nat → Option Int} {T' : Nat → Tk} (hA : ∀ t, t ≠ s → A' t = A t) (hT : ∀ t, t ≠ s → T' t = T t) (h0 : A' s = none ∨ (T' s).ac = false) : Lk A' T' L := by
  have hnd := h.nd
  rw [List.map_cons] at hnd
  obtain ⟨h1, h2⟩ := List.nodup_cons.1 hnd
  refine ⟨fun q => ?_, h2⟩
  constructor
  · intro hq
    obtain ⟨t, k1, k2, k3⟩ := (h.mem q).1 (List.mem_cons_of_mem _ hq)
    have e : t ≠ s := fun e => by
      subst e
      rw [hs] at k1
      exact h1 (List.mem_map.2 ⟨q, hq, (Option.some.inj k1).symm⟩)
    exact ⟨t, by rw [hA t e]; exact k1, by rw [hT t e]; exact k2, by rw [hT t e]; exact k3⟩
  · rintro ⟨t, k1, k2, k3⟩
    by_cases e : t = s
    · subst e
      rcases h0 with h0 | h0
      · rw [h0] at k1; cases k1
      · rw [h0] at k2; cases k2
    · rw [hA t e] at k1
      rw [hT t e] at k2 k3
      rcases List.mem_cons.1 ((h.mem q).2 ⟨t, k1, k2, k3⟩) with rfl | hq
      · exact absurd (a.inj t s _ k1 hs) e
      · exact hq
theorem due_filter (t : Int) : ∀ {L : List Ky}, L.Pairwise le2 → Ca.due t L = L.filter fun x => decide (x.1 ≤ t)
  | [], _ => rfl
  | x :: r, h => by
    obtain ⟨h1, h2⟩ := List.pairwise_cons.1 h
    have ih := due_filter t h2
    unfold Ca.due at ih ⊢
    by_cases e : x.1 ≤ t
    · rw [List.takeWhile_cons_of_pos (by simpa using e), List.filter_cons_of_pos (by simpa using e), ih]
    · rw [List.takeWhile_cons_of_neg (by simpa using e), List.filter_cons_of_neg (by simpa using e)]
      refine (List.filter_eq_nil_iff.2 (fun y hy q => ?_)).symm
      have := h1 y hy
      unfold Ca.le2 at this
      simp at q
      omega
/-- The entries that are due. -/
theorem Lk.isDue {L : List Ky} (h : Lk A T L) (hs : L.Pairwise le2) (t : Int) : IsDue A T t ((Ca.due t L).map Prod.snd) := by
  intro i
  rw [due_filter t hs, List.mem_map]
  constructor
  · rintro ⟨k, hk, rfl⟩
    obtain ⟨h1, h2⟩ := List.mem_filter.1 hk
    obtain ⟨s, h3, h4, h5⟩ := (h.mem k).1 h1
    exact ⟨s, h3, by unfold dueT; rw [h4, h5]; simpa using h2⟩
  · rintro ⟨s, h1, h2⟩
    unfold dueT at h2
    simp only [Bool.and_eq_true, decide_eq_true_eq] at h2
    exact ⟨((T s).r + (T s).p, i), List.mem_filter.2 ⟨(h.mem _).2 ⟨s, h1, h2.1, rfl⟩, by simpa using h2.2⟩, rfl⟩
end
end Go.Proofs.YtlpjojegdnconaaDoor

namespace Go.Proofs.YtlpjojegdnconaaDoor.Ca
open Go.RowKit Go.Lib Go.Maps
set_option linter.unusedVariables false
set_option maxRecDepth 100000

/-! ### what lies ahead of the calendar was turned -/
/-- The same calendar, what lies ahead of it said anew. -/
abbrev Bs.at_ (base : Bs) (w : World) (p : Nat) : Bs := ⟨base.n, fun o => w.cell? ⟨p, o, none⟩⟩
section
variable {w w' : World} {base : Bs} {p c : Nat} {F G : Nat → Prop} {own : Nat → Option Int}
theorem NilC.low (h : NilC w base p c) (hc : ∀ o, 68 ≤ o → w'.cell? ⟨p, o, none⟩ = w.cell? ⟨p, o, none⟩) (hf : ∀ o, w'.frozen? ⟨p, o, none⟩ = false) : NilC w' (base.at_ w' p) p c :=
  ⟨h.bp, h.c6, (hc 68 (by omega)).trans h.c0, (hc 69 (by omega)).trans h.c1, (hc 70 (by omega)).trans h.c2, hf, fun _ _ => rfl⟩
theorem Cm.low {b : Nat} {lk : Value} {N free : Nat} {P X : Nat → Nat} {H : Int → Nat} {D : DataW Unit} (h : Cm w base p b lk N free P X H D c) (K : Ke G w w') (hG : ∀ j, FootC p b lk j → G j → j = p) (hc : ∀ o, 68 ≤ o → w'.cell? ⟨p, o, none⟩ = w.cell? ⟨p, o, none⟩) (hf : ∀ o, w'.frozen? ⟨p, o, none⟩ = false) : Cm w' (base.at_ w' p) p b lk N free P X H D c := by
  have hb : ∀ k, FootC p b lk k → k ≠ p → w'.heap[k]? = w.heap[k]? := fun k hk hne => K.block k (h.lt hk).2 (fun q => hne (hG k hk q))
  exact { h with
    bp := h.bp, bb := h.bb
    c0 := (hc 68 (by omega)).trans h.c0, c1 := (hc 69 (by omega)).trans h.c1, c2 := (hc 70 (by omega)).trans h.c2
    fz := hf
    lo := fun _ _ => rfl
    row := h.row.keep (fun g hg => hb g (.inr (.inr hg)) (fun e => h.lp (by rw [hg, e])))
    own := ownsMap_keep h.own (hb b (.inr (.inl rfl)) (Ne.symm h.pb)) }
theorem Chn.low (h : Chn w base p c F own) (K : Ke G w w') (hG : ∀ j, F j → G j → j = p) (hc : ∀ o, 68 ≤ o → w'.cell? ⟨p, o, none⟩ = w.cell? ⟨p, o, none⟩) (hf : ∀ o, w'.frozen? ⟨p, o, none⟩ = false) : Chn w' (base.at_ w' p) p c F own := by
  rcases h with ⟨h, e, rfl⟩ | h
  · exact .inl ⟨h.low hc hf, e, rfl⟩
  · obtain ⟨b, lk, N, free, P, X, H, D, rk, R, FL, cm, ci, rfl⟩ := h.ex
    exact .inr ⟨⟨b, lk, N, free, P, X, H, D, rk, R, FL, cm.low K hG hc hf, ci, rfl⟩, h.wf⟩
theorem Chn.lo (h : Chn w base p c F own) {o : Nat} (ho : o < 68) : w.cell? ⟨p, o, none⟩ = base.lo o := by
  rcases h with ⟨h, e, rfl⟩ | h
  · exact h.lo o ho
  · obtain ⟨b, lk, N, free, P, X, H, D, rk, R, FL, cm, ci, rfl⟩ := h.ex
    exact cm.lo o ho
end
section
variable {w w' : World} {base : Bs} {p c : Nat} {F G : Nat → Prop} {n : Nat} {M : Nat → Option Rk} {L : List Ky}
theorem Cal.low (h : Cal w base p c F n M) (K : Ke G w w') (hG : ∀ j, F j → G j → j = p) (hc : ∀ o, 68 ≤ o → w'.cell? ⟨p, o, none⟩ = w.cell? ⟨p, o, none⟩) (hf : ∀ o, w'.frozen? ⟨p, o, none⟩ = false) : Cal w' (base.at_ w' p) p c F n M := by
  rcases h with ⟨h, e1, e2⟩ | ⟨Fc, F0, F1, g, cap, p0, p1, o, h, t, rfl⟩
  · exact .inl ⟨⟨h.ch.low K hG hc hf, (hc 71 (by omega)).trans h.c3, (hc 72 (by omega)).trans h.c4⟩, e1, e2⟩
  · have sf := h.ch.self
    refine .inr ⟨Fc, F0, F1, g, cap, p0, p1, o, ?_, t, rfl⟩
    exact { h with
      ch := h.ch.low K (fun j q => hG j (.inl q)) hc hf
      c3 := (hc 71 (by omega)).trans h.c3
      c4 := (hc 72 (by omega)).trans h.c4
      bg := h.bg
      cg := (World.cell?_of_block (a := ⟨g, 0, none⟩) (K.block g h.gl (fun q => h.dg (by rw [hG g (.inr (.inr (.inr rfl))) q]; exact sf)))).trans h.cg
      s0 := h.s0.ke K (fun j q r => h.d0 p sf (by rw [← hG j (.inr (.inl q)) r]; exact q))
      s1 := h.s1.ke K (fun j q r => h.d1 p sf (by rw [← hG j (.inr (.inr (.inl q))) r]; exact q)) }
theorem Cal.lo (h : Cal w base p c F n M) {o : Nat} (ho : o < 68) : w.cell? ⟨p, o, none⟩ = base.lo o := by
  rcases h with ⟨h, rfl, rfl⟩ | ⟨Fc, F0, F1, g, cap, p0, p1, o, h, t, rfl⟩
  · exact h.ch.lo ho
  · exact h.ch.lo ho
theorem Cal.fz (h : Cal w base p c F n M) (o : Nat) : w.frozen? ⟨p, o, none⟩ = false := by
  rcases h with ⟨h, rfl, rfl⟩ | ⟨Fc, F0, F1, g, cap, p0, p1, o, h, t, rfl⟩
  · exact h.ch.fz o
  · exact h.ch.fz _
theorem Cl.low (h : Cl w base p c F L) (K : Ke G w w') (hG : ∀ j, F j → G j → j = p) (hc : ∀ o, 68 ≤ o → w'.cell? ⟨p, o, none⟩ = w.cell? ⟨p, o, none⟩) (hf : ∀ o, w'.frozen? ⟨p, o, none⟩ = false) : Cl w' (base.at_ w' p) p c F L := by
  obtain ⟨M, cal, r⟩ := h.ex
  exact ⟨⟨M, cal.low K hG hc hf, r⟩, Nat.le_trans h.bs K.size⟩
theorem Cl.lo (h : Cl w base p c F L) {o : Nat} (ho : o < 68) : w.cell? ⟨p, o, none⟩ = base.lo o := by
  obtain ⟨M, cal, r⟩ := h.ex
  exact cal.lo ho
theorem Cl.fz (h : Cl w base p c F L) (o : Nat) : w.frozen? ⟨p, o, none⟩ = false := by
  obtain ⟨M, cal, r⟩ := h.ex
  exact cal.fz o
theorem Cl.anew (h : Cl w base p c F L) : Cl w (base.at_ w p) p c F L := h.low (Ke.refl (fun _ => False) w) (fun _ _ q => q.elim) (fun _ _ => rfl) h.fz
end
end Go.Proofs.YtlpjojegdnconaaDoor.Ca

namespace Go.Proofs.YtlpjojegdnconaaDoor
open Go.RowKit Go.Lib Go.Maps
open Ca (Ke Gr Sv Row Cl Ky Bs blk_other)
set_option linter.unusedVariables false

theorem Rep.low {w w' : World} {p g bm n : Nat} {A : Nat → Option Int} {D : DataW Unit} (h : Rep w p g bm n A D) (hs : w.heap.size ≤ w'.heap.size) (hc : ∀ o, o < 67 → w'.cell? ⟨p, o, none⟩ = w.cell? ⟨p, o, none⟩) (hf : ∀ o, w'.frozen? ⟨p, o, none⟩ = false) (eg : w'.heap[g]? = w.heap[g]?) (em : w'.heap[bm]? = w.heap[bm]?) : Rep w' p g bm n A D :=
  { h with
    pl := Nat.lt_of_lt_of_le h.pl hs, gl := Nat.lt_of_lt_of_le h.gl hs, ml := Nat.lt_of_lt_of_le h.ml hs
    ids := (hc 0 (by omega)).trans h.ids, mp := (hc 1 (by omega)).trans h.mp
    room := by
      obtain ⟨F, S, hb, r⟩ := h.room
      exact ⟨F, S, hb, ⟨fun k hk => (hc (2 + k) (by omega)).trans (r.c k hk), (hc 66 (by omega)).trans r.s, hf⟩⟩
    cell := fun s hs => by obtain ⟨v, h1, h2⟩ := h.cell s hs; exact ⟨v, (World.cell?_of_block eg).trans h1, h2⟩
    gz := fun o => (World.frozen?_of_block eg).trans (h.gz o)
    own := by obtain ⟨es, cl, h1, h2⟩ := h.own; exact ⟨es, cl, em.trans h1, h2⟩ }
theorem Rep.fz {w : World} {p g bm n : Nat} {A : Nat → Option Int} {D : DataW Unit} (h : Rep w p g bm n A D) (o : Nat) : w.frozen? ⟨p, o, none⟩ = false := by
  obtain ⟨F, S, hb, r⟩ := h.room
  exact r.z o

/-! ### the cells of tasks -/
/-- The k-th cell of a task. -/
def fld (x : Tk) (k : Nat) : Value := match k with
  | 0 => .int .i64 x.id
  | 1 => .int .i64 x.e
  | 2 => .int .i64 x.p
  | 3 => .bool x.sp
  | 4 => .bool x.le
  | 5 => .bool x.wa
  | 6 => .bool x.ac
  | 7 => .int .i64 x.r
  | 8 => .int .i64 x.g
  | 9 => .bool x.dn
  | _ => .int .i64 x.ct
def tc (T : Nat → Tk) (j : Nat) : Value := fld (T (j / 11)) (j % 11)
theorem tc_set (T : Nat → Tk) (i k : Nat) (hk : k < 11) (x : Tk) (u : Value) (h : ∀ o, o < 11 → fld x o = if o = k then u else fld (T i) o) : tc (upd T i x) = Ca.upd (tc T) (i * 11 + k) u := by
  funext j
  unfold tc Ca.upd
  by_cases q : j / 11 = i
  · rw [q, upd_same, h (j % 11) (Nat.mod_lt _ (by omega))]
    by_cases e : j % 11 = k
    · rw [if_pos e, if_pos (by omega)]
    · rw [if_neg e, if_neg (by omega)]
      show fld (T i) (j % 11) = fld (T (j / 11)) (j % 11)
      rw [q]
  · rw [upd_other _ _ q, if_neg (by omega)]
theorem tc_at (T : Nat → Tk) (i o : Nat) (ho : o < 11) : tc T (i * 11 + o) = fld (T i) o := by unfold tc; rw [show (i * 11 + o) / 11 = i by omega, show (i * 11 + o) % 11 = o by omega]

/-! ### the block of jobs -/
/-- Its blocks. -/
def FJ (g bm : Nat) (v : Value) (Fc : Nat → Prop) (k : Nat) : Prop := k = g ∨ k = bm ∨ v.ownBlock = some k ∨ Fc k
/-- Jobs at block p: the table (ids at g, map at bm), the row v of m tasks T, the calendar with the entries L. -/
structure Jx (w : World) (base p n c g bm : Nat) (v : Value) (m : Nat) (A : Nat → Option Int) (T : Nat → Tk) (D : DataW Unit) (Fc : Nat → Prop) (L : List Ky) : Prop where
  bg : base ≤ g
  bb : base ≤ bm
  rep : Rep w p g bm n A D
  c67 : w.cell? ⟨p, 67, none⟩ = some v
  row : Row w base 49 11 v m (tc T)
  cl : Cl w ⟨base, fun o => w.cell? ⟨p, o, none⟩⟩ p c Fc L
  mn : m ≤ n
  tk : ∀ s, A s ≠ none → s < m
  vp : v.ownBlock ≠ some p
  vg : v.ownBlock ≠ some g
  vm : v.ownBlock ≠ some bm
  fv : ∀ k, v.ownBlock = some k → ¬ Fc k
  fg : ¬ Fc g
  fm : ¬ Fc bm
section
variable {w w' : World} {base p n c c' g bm : Nat} {v : Value} {m : Nat} {A A' : Nat → Option Int} {T T' : Nat → Tk} {D D' : DataW Unit} {Fc Fc' : Nat → Prop} {L L' : List Ky}
theorem Jx.self (h : Jx w base p n c g bm v m A T D Fc L) : Fc p := h.cl.self
theorem Jx.pl (h : Jx w base p n c g bm v m A T D Fc L) : p < w.heap.size := h.rep.pl
theorem Jx.lt (h : Jx w base p n c g bm v m A T D Fc L) {k : Nat} (hk : FJ g bm v Fc k) : base ≤ k ∧ k < w.heap.size := by
  rcases hk with rfl | rfl | hk | hk
  · exact ⟨h.bg, h.rep.gl⟩
  · exact ⟨h.bb, h.rep.ml⟩
  · exact h.row.lt hk
  · exact h.cl.lt hk
theorem Jx.fz (h : Jx w base p n c g bm v m A T D Fc L) (o : Nat) : w.frozen? ⟨p, o, none⟩ = false := h.rep.fz o
/-- Other blocks turned. -/
theorem Jx.ke {G : Nat → Prop} (h : Jx w base p n c g bm v m A T D Fc L) (K : Ke G w w') (hG : ∀ j, FJ g bm v Fc j → ¬ G j) : Jx w' base p n c g bm v m A T D Fc L := by
  have ep := K.block p h.pl (hG p (.inr (.inr (.inr h.self))))
  exact { h with
    rep := h.rep.keep K.size ep (K.block g h.rep.gl (hG g (.inl rfl))) (K.block bm h.rep.ml (hG bm (.inr (.inl rfl))))
    c67 := (World.cell?_of_block (a := ⟨p, 67, none⟩) ep).trans h.c67
    row := h.row.keep (fun k hk => K.block k (h.row.lt hk).2 (hG k (.inr (.inr (.inl hk)))))
    cl := h.cl.low K (fun j q r => absurd r (hG j (.inr (.inr (.inr q))))) (fun o _ => World.cell?_of_block (a := ⟨p, o, none⟩) ep) (fun o => (World.frozen?_of_block (a := ⟨p, o, none⟩) ep).trans (h.fz o)) }
theorem Jx.gr (h : Jx w base p n c g bm v m A T D Fc L) (K : Gr w w') : Jx w' base p n c g bm v m A T D Fc L := h.ke K (fun _ _ q => q)
/-- The table turned. -/
theorem kept3_ke (k : Kept3 p g bm w w') : Ke (fun j => j = p ∨ j = g ∨ j = bm) w w' := ⟨k.os, k.tape, k.output, k.size, fun j hj hn => k.block j hj (fun e => hn (.inl e)) (fun e => hn (.inr (.inl e))) (fun e => hn (.inr (.inr e)))⟩
theorem Jx.table (h : Jx w base p n c g bm v m A T D Fc L) (k : Kept3 p g bm w w') (r : Rep w' p g bm n A' D') (ht : ∀ s, A' s ≠ none → s < m) : Jx w' base p n c g bm v m A' T D' Fc L := by
  have K := kept3_ke k
  exact { h with
    rep := r
    c67 := (k.hi 67 (by omega)).trans h.c67
    row := h.row.keep (fun j hj => K.block j (h.row.lt hj).2 (fun q => by
      rcases q with rfl | rfl | rfl
      · exact h.vp hj
      · exact h.vg hj
      · exact h.vm hj))
    tk := ht
    cl := h.cl.low K (fun j q r => by
      rcases r with r | rfl | rfl
      · exact r
      · exact absurd q h.fg
      · exact absurd q h.fm) (fun o ho => k.hi o (by omega)) r.fz }
theorem Jx.table_ke (h : Jx w base p n c g bm v m A T D Fc L) (k : Kept3 p g bm w w') : Ke (FJ g bm v Fc) w w' := (kept3_ke k).mono (fun j _ q => by
  rcases q with rfl | rfl | rfl
  · exact .inr (.inr (.inr h.self))
  · exact .inl rfl
  · exact .inr (.inl rfl))
/-- The calendar turned. -/
theorem Jx.cal (h : Jx w base p n c g bm v m A T D Fc L) (k : Cl w' ⟨base, fun o => w.cell? ⟨p, o, none⟩⟩ p c' Fc' L') (sv : Sv Fc Fc' w w') : Jx w' base p n c' g bm v m A T D Fc' L' := by
  have hlt : ∀ {j}, j < w.heap.size → Fc' j → Fc j := fun {j} hj q => (sv.ft j q).elim id (fun z => by omega)
  exact { h with
    rep := h.rep.low sv.ke.size (fun o ho => k.lo (by omega)) k.fz (sv.ke.block g h.rep.gl h.fg) (sv.ke.block bm h.rep.ml h.fm)
    c67 := (k.lo (o := 67) (by omega)).trans h.c67
    row := h.row.keep (fun j hj => sv.ke.block j (h.row.lt hj).2 (h.fv j hj))
    cl := k.anew
    fv := fun j hj q => h.fv j hj (hlt (h.row.lt hj).2 q)
    fg := fun q => h.fg (hlt h.rep.gl q)
    fm := fun q => h.fm (hlt h.rep.ml q) }
theorem Jx.cal_sv (h : Jx w base p n c g bm v m A T D Fc L) (sv : Sv Fc Fc' w w') : Sv (FJ g bm v Fc) (FJ g bm v Fc') w w' :=
  ⟨sv.ke.mono (fun _ _ q => .inr (.inr (.inr q))), fun j q => by
    rcases q with q | q | q | q
    · exact .inl (.inl q)
    · exact .inl (.inr (.inl q))
    · exact .inl (.inr (.inr (.inl q)))
    · exact (sv.ft j q).imp (fun z => .inr (.inr (.inr z))) id⟩
/-- The tasks turned. -/
theorem Jx.turn (h : Jx w base p n c g bm v m A T D Fc L) (K : Ke (fun j => v.ownBlock = some j) w w') (r : Row w' base 49 11 v m (tc T')) : Jx w' base p n c g bm v m A T' D Fc L := by
  have ep := K.block p h.pl h.vp
  exact { h with
    rep := h.rep.keep K.size ep (K.block g h.rep.gl h.vg) (K.block bm h.rep.ml h.vm)
    c67 := (World.cell?_of_block (a := ⟨p, 67, none⟩) ep).trans h.c67
    row := r
    cl := h.cl.low K (fun j q r => absurd q (h.fv j r)) (fun o _ => World.cell?_of_block (a := ⟨p, o, none⟩) ep) (fun o => (World.frozen?_of_block (a := ⟨p, o, none⟩) ep).trans (h.fz o)) }
theorem Jx.turn_ke (K : Ke (fun j => v.ownBlock = some j) w w') : Ke (FJ g bm v Fc) w w' := K.mono (fun j _ q => .inr (.inr (.inl q)))
theorem Jx.set {q cap : Nat} (h : Jx w base p n c g bm (.slice (some ⟨q, 0, none⟩) m cap) m A T D Fc L) (i k : Nat) (hk : k < 11) (x : Tk) (u : Value) (hx : ∀ o, o < 11 → fld x o = if o = k then u else fld (T i) o) :
    Jx (w.setCell ⟨q, i * 11 + k, none⟩ u) base p n c g bm (.slice (some ⟨q, 0, none⟩) m cap) m A (upd T i x) D Fc L ∧ Ke (fun j => (Value.slice (some ⟨q, 0, none⟩) m cap).ownBlock = some j) w (w.setCell ⟨q, i * 11 + k, none⟩ u) := by
  have K : Ke (fun j => (Value.slice (some ⟨q, 0, none⟩) m cap).ownBlock = some j) w (w.setCell ⟨q, i * 11 + k, none⟩ u) := Ke.set (F := fun j => (Value.slice (some ⟨q, 0, none⟩) m cap).ownBlock = some j) (Ke.refl _ w) (p := ⟨q, i * 11 + k, none⟩) (.inl rfl) u
  refine ⟨h.turn K ?_, K⟩
  rw [tc_set T i k hk x u hx]
  exact h.row.set _ _
theorem Jx.congrT (h : Jx w base p n c g bm v m A T D Fc L) (e : ∀ s, s < m → T' s = T s) : Jx w base p n c g bm v m A T' D Fc L :=
  { h with row := h.row.congr (fun j hj => by unfold tc; rw [e (j / 11) (by omega)]) }
theorem Jx.more (h : Jx w base p n c g bm v m A T D Fc L) (hA : A' = A) : Jx w base p n c g bm v m A' T D Fc L := by rw [hA]; exact h
/-- A task's cells. -/
theorem Jx.cell {q cap : Nat} (h : Jx w base p n c g bm (.slice (some ⟨q, 0, none⟩) m cap) m A T D Fc L) {s : Nat} (hs : s < m) {o : Nat} (ho : o < 11) : w.cell? ⟨q, s * 11 + o, none⟩ = some (fld (T s) o) := by
  rw [← tc_at T s o ho]
  exact h.row.cell (s * 11 + o) (by omega)
theorem Jx.frozen {q cap : Nat} (h : Jx w base p n c g bm (.slice (some ⟨q, 0, none⟩) m cap) m A T D Fc L) (j : Nat) : w.frozen? ⟨q, j, none⟩ = false := h.row.frozen j
end
end Go.Proofs.YtlpjojegdnconaaDoor

namespace Go.Proofs.YtlpjojegdnconaaDoor
open Go.RowKit Go.Lib Go.Maps
open Ca (Ke Gr Sv Row Cl Ky Bs blk_other)
set_option linter.unusedVariables false
set_option maxRecDepth 100000

theorem _root_.Go.Proofs.YtlpjojegdnconaaDoor.Ca.Ke.drewN {F : Nat → Prop} {a b : World} (h : Ke F a b) (n : Nat) : Ke F a (b.drewN n) := ⟨h.os, h.tape, h.output, h.size, h.block⟩
theorem may_any (e p : Int) (w : World) : Calls Tryd.prog 29 #[.int .i64 e, .int .i64 p] w fun x w' => x = .returned (.bool (canT e p)) ∧ w' = w := by
  obtain ⟨a, ha⟩ : ∃ a, decide (e ≥ 1) = a := ⟨_, rfl⟩
  obtain ⟨b, hb⟩ : ∃ b, decide (e ≤ p) = b := ⟨_, rfl⟩
  obtain ⟨d, hd⟩ : ∃ d, decide (p ≤ 1048575) = d := ⟨_, rfl⟩
  have hc := Lib.hid (show canT e p = (a && b && d) by unfold canT; rw [← ha, ← hb, ← hd])
  cases a <;> cases b <;> cases d
  all_goals
    go_enter Tryd.func29, Tryd.ntmps29
    go_wp2
    go_ret
    exact ⟨by rw [hc.out]; rfl, rfl⟩

theorem full_any (q a : Nat) (g e : Int) (w : World) (c8 : w.cell? ⟨q, a + 8, none⟩ = some (.int .i64 g)) (c1 : w.cell? ⟨q, a + 1, none⟩ = some (.int .i64 e)) : Calls Tryd.prog 35 #[.pointer (some ⟨q, a, none⟩)] w fun x w' => x = .returned (.bool (decide (g = e))) ∧ Gr w w' := by
  go_enter Tryd.func35, Tryd.ntmps35
  go_wp2_with fail
  go_quiet (fail)
  go_wp2_with fail
  go_ret
  exact ⟨rfl, (Ke.refl _ _).drewN _⟩

theorem ready_any (q a : Nat) (ac sp wa : Bool) (w : World) (c6 : w.cell? ⟨q, a + 6, none⟩ = some (.bool ac)) (c3 : w.cell? ⟨q, a + 3, none⟩ = some (.bool sp)) (c5 : w.cell? ⟨q, a + 5, none⟩ = some (.bool wa)) : Calls Tryd.prog 37 #[.pointer (some ⟨q, a, none⟩)] w fun x w' => x = .returned (.bool (!ac && (!sp || wa))) ∧ w' = w := by
  cases ac <;> cases sp <;> cases wa
  all_goals
    go_enter Tryd.func37, Tryd.ntmps37
    go_wp2
    go_ret
    exact ⟨rfl, rfl⟩

theorem begin_any (q a : Nat) (ac wa : Bool) (t r ct : Int) (w : World) (c6 : w.cell? ⟨q, a + 6, none⟩ = some (.bool ac)) (c5 : w.cell? ⟨q, a + 5, none⟩ = some (.bool wa)) (c7 : w.cell? ⟨q, a + 7, none⟩ = some (.int .i64 r)) (c10 : w.cell? ⟨q, a + 10, none⟩ = some (.int .i64 ct)) (fz : ∀ o, w.frozen? ⟨q, o, none⟩ = false) (h0 : 0 ≤ ct) (h1 : ct ≤ 1000000) :
    Calls Tryd.prog 38 #[.pointer (some ⟨q, a, none⟩), .int .i64 t] w fun x w' => x = .returned (.tuple #[]) ∧ w' = (((w.setCell ⟨q, a + 6, none⟩ (.bool true)).setCell ⟨q, a + 5, none⟩ (.bool false)).setCell ⟨q, a + 7, none⟩ (.int .i64 t)).setCell ⟨q, a + 10, none⟩ (.int .i64 (ct + 1)) := by
  have z6 := fz (a + 6)
  have z5 := fz (a + 5)
  have z7 := fz (a + 7)
  have z10 := fz (a + 10)
  clear fz
  go_enter Tryd.func38, Tryd.ntmps38
  go_wp2
  go_end0
  exact ⟨rfl, rfl⟩
theorem end_any (q a : Nat) (ac dn : Bool) (r g : Int) (w : World) (c6 : w.cell? ⟨q, a + 6, none⟩ = some (.bool ac)) (c9 : w.cell? ⟨q, a + 9, none⟩ = some (.bool dn)) (c7 : w.cell? ⟨q, a + 7, none⟩ = some (.int .i64 r)) (c8 : w.cell? ⟨q, a + 8, none⟩ = some (.int .i64 g)) (fz : ∀ o, w.frozen? ⟨q, o, none⟩ = false) :
    Calls Tryd.prog 43 #[.pointer (some ⟨q, a, none⟩)] w fun x w' => x = .returned (.tuple #[]) ∧ w' = (((w.setCell ⟨q, a + 6, none⟩ (.bool false)).setCell ⟨q, a + 9, none⟩ (.bool false)).setCell ⟨q, a + 7, none⟩ (.int .i64 0)).setCell ⟨q, a + 8, none⟩ (.int .i64 0) := by
  have z6 := fz (a + 6)
  have z9 := fz (a + 9)
  have z7 := fz (a + 7)
  have z8 := fz (a + 8)
  clear fz
  go_enter Tryd.func43, Tryd.ntmps43
  go_wp2
  go_end0
  exact ⟨rfl, rfl⟩
theorem deadline_any (q a : Nat) (r p : Int) (w : World) (c7 : w.cell? ⟨q, a + 7, none⟩ = some (.int .i64 r)) (c2 : w.cell? ⟨q, a + 2, none⟩ = some (.int .i64 p)) (h0 : 0 ≤ r) (h1 : r ≤ 1000000000000) (h2 : 0 ≤ p) (h3 : p ≤ 1048575) :
    Calls Tryd.prog 52 #[.pointer (some ⟨q, a, none⟩)] w fun x w' => x = .returned (.tuple #[.int .i64 (r + p), .bool true]) ∧ Gr w w' := by
  have e1 : ¬ (9223372036854775807 - p < r) := by omega
  go_enter Tryd.func52, Tryd.ntmps52
  go_wp2_with fail
  go_quiet (fail)
  go_wp2_with fail
  go_quiet (fail)
  go_wp2_with fail
  go_ret2
  exact ⟨rfl, ((Ke.refl _ _).drewN _).drewN _⟩
end Go.Proofs.YtlpjojegdnconaaDoor
