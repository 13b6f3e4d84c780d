/- The law HeapSorts: what it holds in memory. -/
import Derived.Test.YtfbgjlfepnbcgaaX6
import Derived.Test.YtfbgjlfepnbcgaaU6
namespace Go.Proofs.Ytfbgjlfepnbcgaa
open Go.RowKit Go.Lib
set_option linter.unusedVariables false

/-- The four cells of a rank. -/
structure Rk4 (w : World) (b o : Nat) (r : Rk) : Prop where
  c0 : w.cell? ⟨b, o, none⟩ = some (.int .i64 r.d)
  c1 : w.cell? ⟨b, o + 1, none⟩ = some (.int .i64 r.b)
  c2 : w.cell? ⟨b, o + 2, none⟩ = some (.int .i64 r.g)
  c3 : w.cell? ⟨b, o + 3, none⟩ = some (.int .i64 r.i)
theorem Rk4.keep {w w' : World} {b o : Nat} {r : Rk} (h : Rk4 w b o r) (e : w'.heap[b]? = w.heap[b]?) : Rk4 w' b o r :=
  ⟨(World.cell?_of_block e).trans h.c0, (World.cell?_of_block e).trans h.c1, (World.cell?_of_block e).trans h.c2, (World.cell?_of_block e).trans h.c3⟩
/-- All ranks that came in. -/
def RksIn (w : World) (b off N : Nat) (q : Nat → Rk) : Prop := ∀ i, i < N → Rk4 w b (off + i * 4) (q i)
theorem rks_of {w : World} {b off N : Nat} {q : Nat → Rk} (h : ∀ i, i < N → ∀ j, j < 4 → w.cell? ⟨b, off + i * 4 + j, none⟩ = (rkCells (q i))[j]?) : RksIn w b off N q := fun i hi =>
  ⟨by simpa [rkCells] using h i hi 0 (by omega), by simpa [rkCells] using h i hi 1 (by omega), by simpa [rkCells] using h i hi 2 (by omega), by simpa [rkCells] using h i hi 3 (by omega)⟩

def upto (q : Nat → Rk) (i : Nat) : Nat → Option Rk := fun s => if s < i then some (q s) else none
theorem upto_step (q : Nat → Rk) (i : Nat) : upd (upto q i) i (some (q i)) = upto q (i + 1) := by
  funext j
  unfold upd upto
  by_cases e : j = i
  · subst e; simp
  · simp only [e, if_false]
    have : j < i ↔ j < i + 1 := by omega
    simp [this]
theorem upto_none (q : Nat → Rk) (i : Nat) : upto q i i = none := by simp [upto]

/-- The heap beside the box of the last one. -/
structure So (w0 w : World) (p : Nat) (k : Int) (F : Nat → Prop) (n : Nat) (M : Nat → Option Rk) (Z : Nat) (o sl : Int) (lr : Rk) (N : Nat) (q : Nat → Rk) : Prop where
  hl : Hl w0 w p k F n M
  bz : BoxD w Z o sl lr
  fz : ∀ j, w.frozen? ⟨Z, j, none⟩ = false
  nZ : ¬ F Z
  bZ : w0.heap.size ≤ Z
  sub : ∀ s r, M s = some r → s < N ∧ r = q s
/-- The last one is ahead of all that are left. -/
def La (k : Int) (M : Nat → Option Rk) (sl : Int) (lr : Rk) : Prop := sl = -1 ∨ ∃ ls : Nat, sl = ls ∧ ∀ s r, M s = some r → ahead k ⟨ls, lr⟩ ⟨s, r⟩ = true

section
variable {w0 w w' : World} {p : Nat} {k : Int} {F : Nat → Prop} {n n' : Nat} {M M' : Nat → Option Rk} {Z : Nat} {o sl : Int} {lr : Rk} {N : Nat} {q : Nat → Rk}
theorem So.gr (h : So w0 w p k F n M Z o sl lr N q) (g : Gr w w') : So w0 w' p k F n M Z o sl lr N q :=
  { h with hl := h.hl.gr g, bz := h.bz.ke g (fun x => x), fz := fun j => (g.frozen (p := ⟨Z, j, none⟩) (show Z < w.heap.size from lt_of_cell h.bz.b0) (fun x => x)).trans (h.fz j) }
theorem So.pop (h : So w0 w p k F n M Z o sl lr N q) (s : Nat) (a : Hl w0 w' p k F n' (upd M s none)) (v : Sv F F w w') : So w0 w' p k F n' (upd M s none) Z o sl lr N q :=
  { hl := a, bz := h.bz.ke v.ke h.nZ, fz := fun j => (v.ke.frozen (p := ⟨Z, j, none⟩) (show Z < w.heap.size from lt_of_cell h.bz.b0) h.nZ).trans (h.fz j), nZ := h.nZ, bZ := h.bZ, sub := fun s' r' e => by
      by_cases c : s' = s
      · rw [c, upd_same] at e; cases e
      · rw [upd_other _ _ c] at e; exact h.sub s' r' e }
theorem So.first (h : So w0 w p k F n M Z o sl lr N q) (l : La k M sl lr) {s : Nat} {r : Rk} (hf : First k M s r) : (s < N ∧ r = q s) ∧ La k (upd M s none) s r ∧ (sl = -1 ∨ ∃ ls : Nat, sl = ls ∧ ahead k ⟨ls, lr⟩ ⟨s, r⟩ = true) := by
  refine ⟨h.sub s r hf.has, .inr ⟨s, rfl, fun s' r' e => ?_⟩, ?_⟩
  · by_cases c : s' = s
    · rw [c, upd_same] at e; cases e
    · rw [upd_other _ _ c] at e; exact hf.fst s' r' e c
  · rcases l with l | ⟨ls, e, l⟩
    · exact .inl l
    · exact .inr ⟨ls, e, l s r hf.has⟩
/-- The box set anew. -/
theorem So.set (h : So w0 w p k F n M Z o sl lr N q) (o' s' : Int) (r' : Rk) :
    So w0 ((((((w.setCell ⟨Z, 0, none⟩ (.int .i64 o')).setCell ⟨Z, 1, none⟩ (.int .i64 s')).setCell ⟨Z, 2, none⟩ (.int .i64 r'.d)).setCell ⟨Z, 3, none⟩ (.int .i64 r'.b)).setCell ⟨Z, 4, none⟩ (.int .i64 r'.g)).setCell ⟨Z, 5, none⟩ (.int .i64 r'.i)) p k F n M Z o' s' r' N q := by
  have k1 : Ke (fun j => j = Z) w ((((((w.setCell ⟨Z, 0, none⟩ (.int .i64 o')).setCell ⟨Z, 1, none⟩ (.int .i64 s')).setCell ⟨Z, 2, none⟩ (.int .i64 r'.d)).setCell ⟨Z, 3, none⟩ (.int .i64 r'.b)).setCell ⟨Z, 4, none⟩ (.int .i64 r'.g)).setCell ⟨Z, 5, none⟩ (.int .i64 r'.i)) := by
    repeat (first | with_reducible exact Ke.refl _ _ | with_reducible refine Ke.set ?_ (.inl (by simp)) _)
  have b := h.bz
  refine { hl := ⟨h.hl.st.ke k1 (fun j hj e => ?_), h.hl.below.trans (k1.below h.hl.below.size (fun j hj e => ?_))⟩, bz := ?_, fz := fun j => ?_, nZ := h.nZ, bZ := h.bZ, sub := h.sub }
  · subst e; exact h.nZ hj
  · have := h.bZ; omega
  · exact ⟨by simp [go_sem, b.b0], by simp [go_sem, b.b1], by simp [go_sem, b.b2], by simp [go_sem, b.b3], by simp [go_sem, b.b4], by simp [go_sem, b.b5]⟩
  · simpa using h.fz j
end
end Go.Proofs.Ytfbgjlfepnbcgaa
