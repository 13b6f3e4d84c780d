/- pick, plain: a task, its next subtask, whether it can, its rank; who is the first of those that are left; the best one after another. -/
import Derived.Test.YtkapejgokcpbiaaB6
import Derived.Test.YtkapejgokcpbiaaC1
namespace Go.Proofs.Ytkapejgokcpbiaa
open Go.RowKit Go.Lib
set_option linter.unusedVariables false

/-- A task. -/
structure Tk where
  id : Int
  e : Int
  p : Int
  sp : Bool
  le : Bool
  wa : Bool
  ac : Bool
  r : Int
  g : Int
  dn : Bool
  ct : Int
  deriving Inhabited, DecidableEq
def quB (e p i : Int) : Bool := decide (1 ≤ e) && decide (e ≤ p) && decide (p ≤ 1048575) && decide (1 ≤ i) && decide (i ≤ e)
theorem quB_iff {e p i : Int} : quB e p i = true ↔ Quan e p i := by
  unfold quB
  simp only [Bool.and_eq_true, decide_eq_true_eq]
  constructor
  · rintro ⟨⟨⟨⟨a, b⟩, c⟩, d⟩, f⟩; exact ⟨⟨a, b, c⟩, d, f⟩
  · intro h; exact ⟨⟨⟨⟨h.e1, h.ep⟩, h.pm⟩, h.i1⟩, h.ie⟩
theorem quB_no {e p i : Int} (h : quB e p i = false) : ¬ Quan e p i := fun q => by rw [← quB_iff, h] at q; cases q
/-- Its next subtask's number; nought where there is none. -/
def nxt (x : Tk) : Int := if x.ac && quB x.e x.p (x.g + 1) then x.g + 1 else 0
def canB (x : Tk) (c : Int) (ea : Bool) : Bool := x.ac && quB x.e x.p (x.g + 1) && decide (x.r ≤ c) && (ea || decide (rel x.e x.p (x.g + 1) ≤ c - x.r))
def rkV (e p i r id : Int) : Rk :=
  if quB e p i then (if 2 * e < p ∨ e = p then ⟨IntKind.i64.wrap (r + dl e p i), bt e p i, 0, id⟩ else ⟨IntKind.i64.wrap (r + dl e p i), bt e p i, IntKind.i64.wrap (gp e p i + r), id⟩) else ⟨0, 0, 0, id⟩
/-- The rank of it. -/
def rkT (x : Tk) : Rk := rkV x.e x.p (nxt x) x.r x.id
theorem rkV_id (e p i r id : Int) : (rkV e p i r id).i = id := by unfold rkV; split <;> (try split) <;> rfl
theorem rkT_id (x : Tk) : (rkT x).i = x.id := rkV_id _ _ _ _ _
theorem rkT_ref (x : Tk) : rkT x = if x.ac then rkV x.e x.p (x.g + 1) x.r x.id else ⟨0, 0, 0, x.id⟩ := by
  have z : ∀ e p r id, rkV e p 0 r id = ⟨0, 0, 0, id⟩ := fun e p r id => by unfold rkV quB; simp
  unfold rkT nxt
  cases h1 : x.ac <;> cases h2 : quB x.e x.p (x.g + 1) <;> simp [z]
  unfold rkV; rw [h2]; rfl

/-! ### who is first -/
theorem less_asymm {a b : Rk} (h : lessB a b = true) (g : lessB b a = true) : False := by rw [less_iff] at h g; omega
theorem less_trans {a b c : Rk} (h : lessB a b = true) (g : lessB b c = true) : lessB a c = true := by rw [less_iff] at *; omega
theorem less_total {a b : Rk} (h : a.i ≠ b.i) (g : lessB a b = false) : lessB b a = true := by
  rw [← Bool.not_eq_true, less_iff] at g
  rw [less_iff]
  omega
def fstI (key : Nat → Rk) (R : Nat → Bool) : Nat → Option Nat
  | 0 => none
  | n + 1 => match fstI key R n with
    | none => if R n then some n else none
    | some a => if R n && lessB (key n) (key a) then some n else some a
structure IsFst (key : Nat → Rk) (R : Nat → Bool) (N a : Nat) : Prop where
  lt : a < N
  on : R a = true
  fst : ∀ j, j < N → R j = true → j ≠ a → lessB (key a) (key j) = true
/-- No id of those that are left stands twice. -/
def Dis (key : Nat → Rk) (R : Nat → Bool) (N : Nat) : Prop := ∀ i j, i < N → j < N → R i = true → R j = true → i ≠ j → (key i).i ≠ (key j).i
section
variable {key : Nat → Rk} {R : Nat → Bool} {N a b : Nat}
theorem Dis.sub {R' : Nat → Bool} (h : Dis key R N) (s : ∀ j, j < N → R' j = true → R j = true) : Dis key R' N := fun i j hi hj a b ne => h i j hi hj (s i hi a) (s j hj b) ne
theorem fstI_none : ∀ {N}, fstI key R N = none → ∀ j, j < N → R j = false
  | 0, _, j, hj => by omega
  | n + 1, h, j, hj => by
    simp only [fstI] at h
    split at h
    · rename_i e
      by_cases q : j = n
      · subst q
        cases z : R j
        · rfl
        · rw [z] at h; simp at h
      · exact fstI_none e j (by omega)
    · split at h <;> cases h
theorem fstI_some : ∀ {N}, Dis key R N → ∀ {a}, fstI key R N = some a → IsFst key R N a
  | 0, _, _, h => by simp [fstI] at h
  | n + 1, hd, a, h => by
    have hd' : Dis key R n := fun i j hi hj => hd i j (by omega) (by omega)
    simp only [fstI] at h
    split at h
    · rename_i e
      split at h
      · rename_i z
        cases h
        exact ⟨by omega, z, fun j hj hR ne => by rw [fstI_none e j (by omega)] at hR; cases hR⟩
      · cases h
    · rename_i b e
      have F := fstI_some hd' e
      split at h
      · rename_i z
        cases h
        rw [Bool.and_eq_true] at z
        refine ⟨by omega, z.1, fun j hj hR ne => ?_⟩
        by_cases q : j = b
        · subst q; exact z.2
        · exact less_trans z.2 (F.fst j (by omega) hR q)
      · rename_i z
        cases h
        refine ⟨by have := F.lt; omega, F.on, fun j hj hR ne => ?_⟩
        by_cases q : j = n
        · subst q
          have z2 : lessB (key j) (key a) = false := by
            cases y : lessB (key j) (key a)
            · rfl
            · rw [hR, y] at z; simp at z
          exact less_total (hd j a hj (by have := F.lt; omega) hR F.on ne) z2
        · exact F.fst j (by omega) hR ne
theorem IsFst.unique (h : IsFst key R N a) (g : IsFst key R N b) : a = b := by
  by_cases e : a = b
  · exact e
  · exact (less_asymm (h.fst b g.lt g.on (fun q => e q.symm)) (g.fst a h.lt h.on e)).elim
theorem IsFst.eq (hd : Dis key R N) (h : IsFst key R N a) : fstI key R N = some a := by
  cases e : fstI key R N with
  | none => have := fstI_none e a h.lt; rw [h.on] at this; cases this
  | some b => rw [(fstI_some hd e).unique h]
end
/-- One after another the first of all that are left. -/
def bst (key : Nat → Rk) (N : Nat) : Nat → (Nat → Bool) → List Nat
  | 0, _ => []
  | k + 1, R => match fstI key R N with
    | none => []
    | some a => a :: bst key N k (upd R a false)
/-- Behind the rounds that chose L, R is left. -/
def Rch (key : Nat → Rk) (N : Nat) (R0 : Nat → Bool) (L : List Nat) (R : Nat → Bool) : Prop := ∀ m, bst key N (L.length + m) R0 = L ++ bst key N m R
section
variable {key : Nat → Rk} {R R0 : Nat → Bool} {N a : Nat} {L : List Nat}
theorem Rch.start (key : Nat → Rk) (N : Nat) (R0 : Nat → Bool) : Rch key N R0 [] R0 := fun m => by simp
theorem Rch.step (h : Rch key N R0 L R) (e : fstI key R N = some a) : Rch key N R0 (L ++ [a]) (upd R a false) := fun m => by
  rw [List.length_append, List.length_singleton, show L.length + 1 + m = L.length + (m + 1) by omega, h (m + 1)]
  simp [bst, e]
theorem Rch.done (h : Rch key N R0 L R) : bst key N L.length R0 = L := by
  have := h 0
  simpa [bst] using this
theorem Rch.none (h : Rch key N R0 L R) (e : fstI key R N = none) {k : Nat} (hk : L.length ≤ k) : bst key N k R0 = L := by
  have := h (k - L.length)
  rw [show L.length + (k - L.length) = k by omega] at this
  rw [this]
  cases k - L.length <;> simp [bst, e]
end
/-- How many there are. -/
def cnB (R : Nat → Bool) : Nat → Nat
  | 0 => 0
  | n + 1 => cnB R n + (if R n then 1 else 0)
theorem cnB_congr {R R' : Nat → Bool} : ∀ {n}, (∀ j, j < n → R' j = R j) → cnB R' n = cnB R n
  | 0, _ => rfl
  | n + 1, h => by unfold cnB; rw [cnB_congr (fun j hj => h j (by omega)), h n (by omega)]
theorem cnB_cut {R : Nat → Bool} {a : Nat} : ∀ {n}, a < n → R a = true → cnB (upd R a false) n + 1 = cnB R n
  | 0, h, _ => by omega
  | n + 1, h, hR => by
    unfold cnB
    by_cases q : a = n
    · subst q
      rw [upd_same, cnB_congr (R := R) (fun j hj => upd_other _ _ (by omega)), hR]; simp
    · rw [upd_other _ _ (Ne.symm q)]
      have := cnB_cut (n := n) (by omega) hR
      omega
theorem cnB_zero {R : Nat → Bool} : ∀ {n}, (∀ j, j < n → R j = false) → cnB R n = 0
  | 0, _ => rfl
  | n + 1, h => by unfold cnB; rw [cnB_zero (fun j hj => h j (by omega)), h n (by omega)]; rfl
theorem cnB_le (R : Nat → Bool) : ∀ n, cnB R n ≤ n
  | 0 => Nat.le_refl _
  | n + 1 => by have := cnB_le R n; unfold cnB; split <;> omega
theorem fstI_in {key : Nat → Rk} {R : Nat → Bool} : ∀ {N a}, fstI key R N = some a → a < N ∧ R a = true
  | 0, a, h => by simp [fstI] at h
  | n + 1, a, h => by
    simp only [fstI] at h
    split at h
    · split at h
      · rename_i z; cases h; exact ⟨by omega, z⟩
      · cases h
    · rename_i b e
      have := fstI_in e
      split at h
      · rename_i z; cases h; rw [Bool.and_eq_true] at z; exact ⟨by omega, z.1⟩
      · cases h; exact ⟨by omega, this.2⟩
theorem bst_length {key : Nat → Rk} {N : Nat} : ∀ k R, (bst key N k R).length = min k (cnB R N)
  | 0, R => by simp [bst]
  | k + 1, R => by
    unfold bst
    split
    · rename_i e
      rw [cnB_zero (fstI_none e)]; simp
    · rename_i a e
      obtain ⟨h1, h2⟩ := fstI_in e
      have := cnB_cut h1 h2
      rw [List.length_cons, bst_length k]
      omega
theorem bst_take {key : Nat → Rk} {N : Nat} : ∀ k m R, k ≤ m → bst key N k R = (bst key N m R).take k
  | 0, m, R, _ => by simp [bst]
  | k + 1, 0, R, h => by omega
  | k + 1, m + 1, R, h => by
    unfold bst
    split
    · rfl
    · rw [List.take_succ_cons, bst_take k m _ (by omega)]

/-! ### of a list of tasks -/
/-- Does its id stand ahead of it already? -/
def twB (l : Nat → Tk) (i : Nat) : Bool := (List.range i).any fun j => decide ((l j).id = (l i).id)
theorem twB_iff {l : Nat → Tk} {i : Nat} : twB l i = true ↔ ∃ j, j < i ∧ (l j).id = (l i).id := by
  unfold twB; rw [List.any_eq_true]; simp
def cndB (l : Nat → Tk) (c : Int) (ea : Bool) (i : Nat) : Bool := canB (l i) c ea && !twB l i
theorem cnd_dis (l : Nat → Tk) (c : Int) (ea : Bool) (N : Nat) : Dis (fun i => rkT (l i)) (cndB l c ea) N := fun i j hi hj a b ne e => by
  simp only [rkT_id] at e
  unfold cndB at a b
  simp only [Bool.and_eq_true, Bool.not_eq_true'] at a b
  rcases Nat.lt_or_gt_of_ne ne with q | q
  · have : twB l j = true := twB_iff.2 ⟨i, q, e⟩
    rw [b.2] at this; cases this
  · have : twB l i = true := twB_iff.2 ⟨j, q, e.symm⟩
    rw [a.2] at this; cases this
/-- The ids of the best. -/
def bestI (l : Nat → Tk) (N : Nat) (c : Int) (k : Nat) (ea : Bool) : List Int := (bst (fun i => rkT (l i)) N k (cndB l c ea)).map fun i => (l i).id

end Go.Proofs.Ytkapejgokcpbiaa
