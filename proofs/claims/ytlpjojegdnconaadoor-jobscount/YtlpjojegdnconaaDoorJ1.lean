/- Tasks, plain: what each is, the list of them by id, what each call does to it. -/
import Derived.Test.YtlpjojegdnconaaDoorL8
import Derived.Test.YtlpjojegdnconaaDoorR7
namespace Go.Proofs.YtlpjojegdnconaaDoor
open Go.RowKit Go.Lib
set_option linter.unusedVariables false

/-- A task, plain. -/
structure Tk where
  id : Int
  e : Int
  p : Int
  sp : Bool
  le : Bool
  wa : Bool
  ac : Bool
  r : Int
  g : Int
  dn : Bool
  ct : Int
  deriving DecidableEq, Inhabited

def zeroT : Tk := ⟨0, 0, 0, false, false, false, false, 0, 0, false, 0⟩
def canT (e p : Int) : Bool := decide (1 ≤ e) && decide (e ≤ p) && decide (p ≤ 1048575)
def newT (id e p : Int) (sp : Bool) : Tk := ⟨id, e, p, sp, false, false, false, 0, 0, false, 0⟩
def ready (x : Tk) : Bool := !x.ac && (!x.sp || x.wa)
def begT (t : Int) (x : Tk) : Tk := { x with ac := true, wa := false, r := t, ct := x.ct + 1 }
def endT (x : Tk) : Tk := { x with ac := false, dn := false, r := 0, g := 0 }
def leaT (x : Tk) : Tk := { x with le := true }
def waiT (x : Tk) : Tk := { x with wa := true }
def donT (x : Tk) : Tk := { x with dn := true }
def givT (x : Tk) : Tk := { x with g := x.g + 1 }

/-- What holds of every task when at most c jobs began. -/
structure OkT (c : Nat) (x : Tk) : Prop where
  wf : (Lit.int .i64 x.id).wf = true
  e1 : 1 ≤ x.e
  ep : x.e ≤ x.p
  pm : x.p ≤ 1048575
  g0 : 0 ≤ x.g
  ge : x.g ≤ x.e
  c0 : 0 ≤ x.ct
  cc : x.ct ≤ c
  r0 : 0 ≤ x.r
  rm : x.r ≤ 1000000000000
  off : x.ac = false → x.r = 0 ∧ x.g = 0 ∧ x.dn = false ∧ x.le = false

section
variable {c : Nat} {x : Tk}
theorem OkT.more (h : OkT c x) {c' : Nat} (hc : c ≤ c') : OkT c' x := { h with cc := by have := h.cc; omega }
theorem okT_new {id e p : Int} {sp : Bool} (hi : (Lit.int .i64 id).wf = true) (hc : canT e p = true) : OkT c (newT id e p sp) := by
  unfold canT at hc
  simp at hc
  exact ⟨hi, by show 1 ≤ e; omega, by show e ≤ p; omega, by show p ≤ 1048575; omega, Int.le_refl 0, by show 0 ≤ e; omega, Int.le_refl 0, by show (0 : Int) ≤ c; omega, Int.le_refl 0, by show (0 : Int) ≤ 1000000000000; omega, fun _ => ⟨rfl, rfl, rfl, rfl⟩⟩
theorem OkT.beg (h : OkT c x) {t : Int} (h0 : 0 ≤ t) (hm : t ≤ 1000000000000) : OkT (c + 1) (begT t x) :=
  ⟨h.wf, h.e1, h.ep, h.pm, h.g0, h.ge, by have := h.c0; show 0 ≤ x.ct + 1; omega, by have := h.cc; show x.ct + 1 ≤ ((c + 1 : Nat) : Int); omega, h0, hm, fun q => by cases q⟩
theorem OkT.end (h : OkT c x) (hl : x.le = false) : OkT c (endT x) :=
  ⟨h.wf, h.e1, h.ep, h.pm, Int.le_refl 0, by have := h.e1; show 0 ≤ x.e; omega, h.c0, h.cc, Int.le_refl 0, by show (0 : Int) ≤ 1000000000000; omega, fun _ => ⟨rfl, rfl, rfl, hl⟩⟩
theorem OkT.lea (h : OkT c x) (ha : x.ac = true) : OkT c (leaT x) := { h with off := fun q => by rw [show (leaT x).ac = x.ac from rfl, ha] at q; cases q }
theorem OkT.wai (h : OkT c x) : OkT c (waiT x) := { h with }
theorem OkT.don (h : OkT c x) (ha : x.ac = true) : OkT c (donT x) := { h with off := fun q => by rw [show (donT x).ac = x.ac from rfl, ha] at q; cases q }
theorem OkT.giv (h : OkT c x) (ha : x.ac = true) (hg : x.g ≠ x.e) : OkT c (givT x) :=
  { h with g0 := by have := h.g0; show 0 ≤ x.g + 1; omega, ge := by have := h.ge; show x.g + 1 ≤ x.e; omega, off := fun q => by rw [show (givT x).ac = x.ac from rfl, ha] at q; cases q }
end

/-! ### the list -/
def getT (S : List Tk) (i : Int) : Option Tk := S.find? fun x => decide (x.id = i)
def setT (S : List Tk) (x : Tk) : List Tk := S.map fun y => if y.id = x.id then x else y
def delT (S : List Tk) (i : Int) : List Tk := S.filter fun y => decide (y.id ≠ i)
def insT (x : Tk) : List Tk → List Tk
  | [] => [x]
  | y :: r => if y.id < x.id then y :: insT x r else x :: y :: r
def relT (t : Int) (S : List Tk) : List Tk := S.map fun x => if ready x then begT t x else x
def relI (S : List Tk) : List Int := (S.filter ready).map Tk.id
def dueT (t : Int) (x : Tk) : Bool := x.ac && decide (x.r + x.p ≤ t)
def lgT (t : Int) (x : Tk) : Bool := dueT t x && x.le
def msT (t : Int) (x : Tk) : Bool := dueT t x && decide (x.g ≠ x.e)
def stlT (t : Int) (S : List Tk) : List Tk := (S.filter fun x => !lgT t x).map fun x => if dueT t x then endT x else x
def stlI (t : Int) (S : List Tk) : List Int := (S.filter (lgT t)).map Tk.id
def stlN (t : Int) (S : List Tk) : Nat := S.countP (msT t)

def Srt (S : List Tk) : Prop := S.Pairwise fun x y => x.id < y.id
section
variable {S S' : List Tk}
theorem Srt.inj (h : Srt S) {x y : Tk} (hx : x ∈ S) (hy : y ∈ S) (e : x.id = y.id) : x = y := by
  induction S with
  | nil => cases hx
  | cons z r ih =>
    obtain ⟨h1, h2⟩ := List.pairwise_cons.1 h
    rcases List.mem_cons.1 hx with rfl | hx'
    · rcases List.mem_cons.1 hy with rfl | hy'
      · rfl
      · have := h1 _ hy'; omega
    · rcases List.mem_cons.1 hy with rfl | hy'
      · have := h1 _ hx'; omega
      · exact ih h2 hx' hy'
theorem Srt.filter (h : Srt S) (q : Tk → Bool) : Srt (S.filter q) := List.Pairwise.filter q h
theorem Srt.map (h : Srt S) {f : Tk → Tk} (hf : ∀ x, (f x).id = x.id) : Srt (S.map f) := List.pairwise_map.2 (h.imp (fun {a b} q => by rw [hf, hf]; exact q))
theorem Srt.ids (h : Srt S) : (S.map Tk.id).Pairwise (· < ·) := List.pairwise_map.2 h
theorem Srt.nodup (h : Srt S) : S.Nodup := h.imp (fun {a b} q e => by rw [e] at q; omega)
theorem lt_nodup {l : List Int} (h : l.Pairwise (· < ·)) : l.Nodup := h.imp (fun {a b} q e => by omega)
/-- Rising rows of the same numbers are the same. -/
theorem lt_unique {l l' : List Int} (h : l.Pairwise (· < ·)) (h' : l'.Pairwise (· < ·)) (m : ∀ x, x ∈ l ↔ x ∈ l') : l = l' :=
  ((List.perm_ext_iff_of_nodup (lt_nodup h) (lt_nodup h')).2 m).eq_of_pairwise (fun a b _ _ x y => by omega) h h'
theorem Srt.unique (h : Srt S) (h' : Srt S') (m : ∀ x, x ∈ S ↔ x ∈ S') : S = S' :=
  ((List.perm_ext_iff_of_nodup h.nodup h'.nodup).2 m).eq_of_pairwise (fun a b _ _ x y => by omega) h h'
theorem mem_insT {x y : Tk} : ∀ {S : List Tk}, y ∈ insT x S ↔ y = x ∨ y ∈ S
  | [] => by simp [insT]
  | z :: r => by
    unfold insT
    split
    · rw [List.mem_cons, mem_insT, List.mem_cons]
      constructor
      · rintro (h | h | h)
        · exact .inr (.inl h)
        · exact .inl h
        · exact .inr (.inr h)
      · rintro (h | h | h)
        · exact .inr (.inl h)
        · exact .inl h
        · exact .inr (.inr h)
    · simp
theorem Srt.ins {x : Tk} : ∀ {S : List Tk}, Srt S → (∀ y, y ∈ S → y.id ≠ x.id) → Srt (insT x S)
  | [], _, _ => by simp [insT, Srt]
  | z :: r, h, hn => by
    obtain ⟨h1, h2⟩ := List.pairwise_cons.1 h
    unfold insT
    split
    · next q =>
      refine List.pairwise_cons.2 ⟨fun y hy => ?_, Srt.ins h2 (fun y hy => hn y (List.mem_cons_of_mem _ hy))⟩
      rcases mem_insT.1 hy with rfl | hy
      · exact q
      · exact h1 y hy
    · next q =>
      have := hn z (List.mem_cons_self ..)
      refine List.pairwise_cons.2 ⟨fun y hy => ?_, h⟩
      rcases List.mem_cons.1 hy with rfl | hy
      · omega
      · have := h1 y hy; omega
theorem mem_setT {x y : Tk} (hx : ∃ z, z ∈ S ∧ z.id = x.id) : y ∈ setT S x ↔ y = x ∨ (y ∈ S ∧ y.id ≠ x.id) := by
  unfold setT
  rw [List.mem_map]
  constructor
  · rintro ⟨z, hz, rfl⟩
    by_cases e : z.id = x.id
    · rw [if_pos e]; exact .inl rfl
    · rw [if_neg e]; exact .inr ⟨hz, e⟩
  · rintro (rfl | ⟨hy, e⟩)
    · obtain ⟨z, hz, e⟩ := hx
      exact ⟨z, hz, by rw [if_pos e]⟩
    · exact ⟨y, hy, by rw [if_neg e]⟩
theorem Srt.set (h : Srt S) (x : Tk) : Srt (setT S x) := h.map (fun y => by split <;> simp_all)
theorem mem_delT {i : Int} {y : Tk} : y ∈ delT S i ↔ y ∈ S ∧ y.id ≠ i := by unfold delT; rw [List.mem_filter]; simp
theorem Srt.del (h : Srt S) (i : Int) : Srt (delT S i) := h.filter _
theorem getT_some {x : Tk} (h : Srt S) (hx : x ∈ S) : getT S x.id = some x := by
  unfold getT
  cases q : S.find? fun y => decide (y.id = x.id) with
  | none =>
    rw [List.find?_eq_none] at q
    have := q x hx
    simp at this
  | some y =>
    have h1 := List.find?_some q
    have h2 := List.mem_of_find?_eq_some q
    rw [h.inj h2 hx (by simpa using h1)]
theorem getT_none {i : Int} (hx : ∀ x, x ∈ S → x.id ≠ i) : getT S i = none := by
  unfold getT
  rw [List.find?_eq_none]
  intro x h
  simp [hx x h]
theorem getT_mem {i : Int} {x : Tk} (h : getT S i = some x) : x ∈ S ∧ x.id = i := ⟨List.mem_of_find?_eq_some h, by simpa using List.find?_some h⟩
theorem ready_id (t : Int) (x : Tk) : (if ready x then begT t x else x).id = x.id := by split <;> rfl
theorem Srt.rel (h : Srt S) (t : Int) : Srt (relT t S) := h.map (ready_id t)
theorem due_id (t : Int) (x : Tk) : (if dueT t x then endT x else x).id = x.id := by split <;> rfl
theorem Srt.stl (h : Srt S) (t : Int) : Srt (stlT t S) := (h.filter _).map (due_id t)
end
end Go.Proofs.YtlpjojegdnconaaDoor
