/- The document's own seats, plain: by id what each has; what Sit leaves. -/
import Derived.Test.YtnmdidglfegdcaaDoorG2
namespace Go.Proofs.YtnmdidglfegdcaaDoor
open Go.RowKit Go.Lib Go.Maps
set_option linter.unusedVariables false
set_option maxRecDepth 100000

section
variable {S : List Sa} {x y : Int} {k : Nat}
def gS (S : List Sa) (x : Int) : Option Sa := S.find? fun y => decide (y.id = x)
def fA (S : List Sa) (x : Int) : Option Nat := (gS S x).map Sa.c
def fN (S : List Sa) (x : Int) : Bool := ((gS S x).map Sa.now).getD false
def Dis (S : List Sa) : Prop := S.Pairwise fun a b => a.id ≠ b.id
theorem gS_at (h : atI S x = some k) : gS S x = some (S.getD k zeroS) := by
  unfold atI at h
  unfold gS
  rw [List.findIdx?_eq_some_iff_getElem] at h
  obtain ⟨h1, h2, h3⟩ := h
  rw [List.find?_eq_some_iff_getElem]
  refine ⟨?_, k, h1, ?_, fun j hj => by have := h3 j hj; simpa using this⟩
  · simpa [List.getD_eq_getElem?_getD, List.getElem?_eq_getElem h1] using h2
  · simp [List.getD_eq_getElem?_getD, List.getElem?_eq_getElem h1]
theorem gS_no (h : atI S x = none) : gS S x = none := by
  unfold atI at h
  unfold gS
  rw [List.findIdx?_eq_none_iff] at h
  rw [List.find?_eq_none]
  intro z hz
  have := h z hz
  simpa using this
theorem fA_at (h : atI S x = some k) : fA S x = some (S.getD k zeroS).c := by unfold fA; rw [gS_at h]; rfl
theorem fA_no (h : atI S x = none) : fA S x = none := by unfold fA; rw [gS_no h]; rfl
theorem fN_at (h : atI S x = some k) : fN S x = (S.getD k zeroS).now := by unfold fN; rw [gS_at h]; rfl
theorem fN_no (h : atI S x = none) : fN S x = false := by unfold fN; rw [gS_no h]; rfl
theorem delS_eq (S : List Sa) (x : Int) : delS S x = S.eraseP fun y => decide (y.id = x) := by
  unfold delS atI
  rw [List.eraseP_eq_eraseIdx]
  cases List.findIdx? (fun y => decide (y.id = x)) S <;> rfl
theorem gS_out (h : ∀ z ∈ S, z.id ≠ x) : gS S x = none := by
  unfold gS
  rw [List.find?_eq_none]
  intro z hz
  simpa using h z hz
theorem gS_del : ∀ {S : List Sa}, Dis S → gS (delS S x) y = if y = x then none else gS S y
  | [], _ => by simp [delS_eq, gS]
  | a :: S, h => by
    obtain ⟨h1, h2⟩ := List.pairwise_cons.1 h
    have ih := gS_del h2
    rw [delS_eq] at ih ⊢
    by_cases e : a.id = x
    · rw [List.eraseP_cons_of_pos (by simpa using e)]
      by_cases q : y = x
      · rw [if_pos q, q]
        exact gS_out fun z hz => by have := h1 z hz; rw [e] at this; exact Ne.symm this
      · rw [if_neg q]
        unfold gS
        rw [List.find?_cons_of_neg (by simp; omega)]
    · rw [List.eraseP_cons_of_neg (by simpa using e)]
      by_cases q : a.id = y
      · rw [if_neg (by omega)]
        unfold gS
        rw [List.find?_cons_of_pos (by simpa using q), List.find?_cons_of_pos (by simpa using q)]
      · unfold gS at ih ⊢
        rw [List.find?_cons_of_neg (by simpa using q), List.find?_cons_of_neg (by simpa using q)]
        exact ih
theorem Dis.del (h : Dis S) (x : Int) : Dis (delS S x) := by
  rw [delS_eq]
  exact List.Pairwise.sublist List.eraseP_sublist h
theorem del_len (S : List Sa) (x : Int) : (delS S x).length ≤ S.length := by
  rw [delS_eq]
  exact List.eraseP_sublist.length_le
theorem gS_mem (h : gS S x = none) : ∀ z ∈ S, z.id ≠ x := fun z hz => by
  unfold gS at h
  rw [List.find?_eq_none] at h
  simpa using h z hz
/-- One put in its place. -/
def putS (S : List Sa) (x : Int) (c : Nat) : List Sa := delS S x ++ [⟨x, c, true⟩]
theorem gS_put {c : Nat} (h : Dis S) : gS (putS S x c) y = if y = x then some ⟨x, c, true⟩ else gS S y := by
  unfold putS
  unfold gS
  rw [List.find?_append]
  have := gS_del (x := x) (y := y) h
  unfold gS at this
  rw [this]
  by_cases q : y = x
  · rw [if_pos q, if_pos q]; simp [q]
  · rw [if_neg q, if_neg q]
    rw [List.find?_cons_of_neg (by simp; omega)]
    simp
theorem Dis.put {c : Nat} (h : Dis S) : Dis (putS S x c) := by
  unfold putS Dis
  rw [List.pairwise_append]
  refine ⟨h.del x, by simp, fun a ha b hb => ?_⟩
  simp at hb
  subst hb
  have := gS_del (x := x) (y := x) h
  rw [if_pos rfl] at this
  exact gS_mem this a ha
theorem put_len (S : List Sa) (x : Int) (c : Nat) : (putS S x c).length ≤ S.length + 1 := by
  unfold putS
  rw [List.length_append]
  have := del_len S x
  simp; omega
/-- Nobody sits. -/
def offS (S : List Sa) : List Sa := S.map fun y => ⟨y.id, y.c, false⟩
theorem gS_off : gS (offS S) x = (gS S x).map fun y => ⟨y.id, y.c, false⟩ := by
  unfold gS offS
  rw [List.find?_map]
  rfl
theorem Dis.off (h : Dis S) : Dis (offS S) := by
  unfold Dis offS
  rw [List.pairwise_map]
  exact h
/-- All put in their places. -/
def finS (S : List Sa) (C : Int → Nat) (l : List Int) : List Sa := l.foldl (fun S x => putS S x (C x)) S
theorem gS_fin {C : Int → Nat} : ∀ {l : List Int} {S : List Sa}, Dis S → gS (finS S C l) x = if x ∈ l then some ⟨x, C x, true⟩ else gS S x
  | [], S, h => by simp [finS]
  | a :: l, S, h => by
    show gS (finS (putS S a (C a)) C l) x = _
    rw [gS_fin h.put, gS_put h]
    by_cases q : x ∈ l
    · rw [if_pos q, if_pos (by simp [q])]
    · rw [if_neg q]
      by_cases e : x = a
      · rw [if_pos e, if_pos (by simp [e]), e]
      · rw [if_neg e, if_neg (by simp [q, e])]
theorem fin_dis {C : Int → Nat} : ∀ {l : List Int} {S : List Sa}, Dis S → Dis (finS S C l)
  | [], S, h => h
  | a :: l, S, h => fin_dis (l := l) h.put
theorem fin_len {C : Int → Nat} : ∀ {l : List Int} {S : List Sa}, (finS S C l).length ≤ S.length + l.length
  | [], S => by simp [finS]
  | a :: l, S => by
    have h1 := fin_len (C := C) (l := l) (S := putS S a (C a))
    have h2 := put_len S a (C a)
    show (finS (putS S a (C a)) C l).length ≤ _
    simp only [List.length_cons]
    omega
theorem fin_take {C : Int → Nat} {l : List Int} {i : Nat} (h : i < l.length) : finS S C (l.take (i + 1)) = putS (finS S C (l.take i)) (l.getD i 0) (C (l.getD i 0)) := by
  unfold finS
  rw [List.take_succ_eq_append_getElem h, List.foldl_append]
  simp [List.getD_eq_getElem?_getD, List.getElem?_eq_getElem h]
/-- What Sit leaves. -/
theorem fin_sit {l : List Int} {s : Sg} (h : Dis S) (hs : ∀ x, x ∈ l ↔ s.G x ≠ none) :
    fA (finS (offS S) (fun x => (s.G x).getD 0) l) = nxA s (fA S) ∧ fN (finS (offS S) (fun x => (s.G x).getD 0) l) = nxN s := by
  constructor
  · funext x
    unfold fA nxA
    rw [gS_fin h.off]
    cases e : s.G x with
    | some c => rw [if_pos ((hs x).2 (by rw [e]; simp))]; simp
    | none =>
      rw [if_neg (fun q => (hs x).1 q e), gS_off, Option.map_map]
      rfl
  · funext x
    unfold fN nxN
    rw [gS_fin h.off]
    cases e : s.G x with
    | some c => rw [if_pos ((hs x).2 (by rw [e]; simp))]; rfl
    | none =>
      rw [if_neg (fun q => (hs x).1 q e), gS_off]
      cases gS S x <;> rfl
theorem fA_del (h : Dis S) : fA (delS S x) = up (fA S) x none := by
  funext y
  unfold fA up
  rw [gS_del h]
  split <;> rfl
theorem fN_del (h : Dis S) : fN (delS S x) = up (fN S) x false := by
  funext y
  unfold fN up
  rw [gS_del h]
  split <;> rfl
end
end Go.Proofs.YtnmdidglfegdcaaDoor
