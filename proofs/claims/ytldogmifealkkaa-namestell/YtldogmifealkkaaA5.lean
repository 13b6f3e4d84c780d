/- The tables in memory; the Once: its first time, and later. -/
import Derived.Test.YtldogmifealkkaaA4
import Derived.Defers
import Derived.RegionCalls
namespace Go.Proofs.Ytldogmifealkkaa
open Go.RowKit Go.Lib Go.Maps
set_option linter.unusedVariables false

/-- The tables behind the cells 3 to 6 of block p; all their blocks at s or behind it. -/
structure Tab (w : World) (p s : Nat) (bo bm be cap mb : Nat) : Prop where
  c3 : w.cell? ⟨p, 3, none⟩ = some (.slice (some ⟨bo, 0, none⟩) 9 9)
  c4 : w.cell? ⟨p, 4, none⟩ = some (.slice (some ⟨bm, 0, none⟩) 5 5)
  c5 : w.cell? ⟨p, 5, none⟩ = some (.slice (some ⟨be, 0, none⟩) 15 cap)
  c6 : w.cell? ⟨p, 6, none⟩ = some (.map (some mb))
  op : Wd w bo 9 opW
  mo : Wd w bm 5 moW
  er : Wd w be 15 erW
  mp : ∃ D, w.ownsMap Try.prog 9 (plainElem Try.prog 3) mb 8 D ∧ MapN D 8
  lo : s ≤ bo ∧ s ≤ bm ∧ s ≤ be ∧ s ≤ mb
theorem Wd.lt {w : World} {B n : Nat} {f : Nat → ByteArray} (h : Wd w B n f) (hn : 0 < n) : B < w.heap.size := cell_lt (h 0 hn)
theorem own_lt {R : Value → Option (DataW Unit × List MemPlace)} {w : World} {b n : Nat} {D : DataW Unit} (h : w.ownsMap Try.prog 9 R b n D) : b < w.heap.size := by
  obtain ⟨es, cl, h1, h2⟩ := h
  exact (Array.getElem?_eq_some_iff.1 h1).1
theorem Tab.keep {w w' : World} {p s bo bm be cap mb : Nat} (h : Tab w p s bo bm be cap mb) (hp : w'.heap[p]? = w.heap[p]?) (hs : ∀ k, s ≤ k → k < w.heap.size → w'.heap[k]? = w.heap[k]?) : Tab w' p s bo bm be cap mb := by
  obtain ⟨D, o, n⟩ := h.mp
  obtain ⟨l1, l2, l3, l4⟩ := h.lo
  exact ⟨(World.cell?_of_block (a := ⟨p, 3, none⟩) hp).trans h.c3, (World.cell?_of_block (a := ⟨p, 4, none⟩) hp).trans h.c4, (World.cell?_of_block (a := ⟨p, 5, none⟩) hp).trans h.c5, (World.cell?_of_block (a := ⟨p, 6, none⟩) hp).trans h.c6,
    h.op.keep (hs _ l1 (h.op.lt (by omega))), h.mo.keep (hs _ l2 (h.mo.lt (by omega))), h.er.keep (hs _ l3 (h.er.lt (by omega))), ⟨D, own_keep o (hs _ l4 (own_lt o)), n⟩, h.lo⟩

/-- A Names at block p, its tables not made yet, or made. -/
def NM (w : World) (p s : Nat) (m : Bool) : Prop :=
  p < s ∧ s ≤ w.heap.size ∧
  match m with
  | false => w.cell? ⟨p, 0, none⟩ = some (.int .u32 0) ∧ w.cell? ⟨p, 1, none⟩ = some (.int .i32 0) ∧ w.cell? ⟨p, 7, none⟩ = some (.int .i64 0) ∧ (∃ a b c d, w.cell? ⟨p, 3, none⟩ = some a ∧ w.cell? ⟨p, 4, none⟩ = some b ∧ w.cell? ⟨p, 5, none⟩ = some c ∧ w.cell? ⟨p, 6, none⟩ = some d) ∧ ∀ o, w.frozen? ⟨p, o, none⟩ = false
  | true => w.cell? ⟨p, 0, none⟩ = some (.int .u32 1) ∧ w.cell? ⟨p, 7, none⟩ = some (.int .i64 1) ∧ ∃ bo bm be cap mb, Tab w p s bo bm be cap mb
theorem NM.keep {w w' : World} {p s : Nat} {m : Bool} {F : Nat → Prop} (h : NM w p s m) (k : Ke F w w') (hF : ∀ j, F j → j < s ∧ j ≠ p) : NM w' p s m := by
  obtain ⟨h1, h2, h3⟩ := h
  have hp : w'.heap[p]? = w.heap[p]? := k.block p (by omega) (fun q => (hF _ q).2 rfl)
  have hs : ∀ j, s ≤ j → j < w.heap.size → w'.heap[j]? = w.heap[j]? := fun j a b => k.block j b (fun q => by have := (hF _ q).1; omega)
  refine ⟨h1, Nat.le_trans h2 k.size, ?_⟩
  have ce : ∀ o, w'.cell? ⟨p, o, none⟩ = w.cell? ⟨p, o, none⟩ := fun o => World.cell?_of_block (a := ⟨p, o, none⟩) hp
  cases m with
  | false =>
    obtain ⟨a, b, c, ⟨x, y, z, u, d1, d2, d3, d4⟩, e⟩ := h3
    exact ⟨(ce 0).trans a, (ce 1).trans b, (ce 7).trans c, ⟨x, y, z, u, (ce 3).trans d1, (ce 4).trans d2, (ce 5).trans d3, (ce 6).trans d4⟩, fun o => (World.frozen?_of_block (a := ⟨p, o, none⟩) hp).trans (e o)⟩
  | true =>
    obtain ⟨a, c, bo, bm, be, cap, mb, t⟩ := h3
    exact ⟨(ce 0).trans a, (ce 7).trans c, bo, bm, be, cap, mb, t.keep hp hs⟩
theorem NM.up {w : World} {p s s' : Nat} (h : NM w p s false) (h1 : s ≤ s') (h2 : s' ≤ w.heap.size) : NM w p s' false := ⟨by have := h.1; omega, h2, h.2.2⟩
theorem NM.new (w : World) : NM (w.alloc newO) w.heap.size (w.heap.size + 1) false := by
  refine ⟨by omega, by simp, by simp [go_sem], by simp [go_sem], by simp [go_sem], ⟨_, _, _, _, by simp [go_sem]; rfl, by simp [go_sem]; rfl, by simp [go_sem]; rfl, by simp [go_sem]; rfl⟩, fun o => by simp [go_sem]⟩

/-- (*sync/atomic.Bool).Store, entered as a deferred call. -/
theorem store_deferred (a : Addr) (x : Value) (u : FrameMode) (w : World) (hc : w.cell? a = some x) (hz : w.frozen? a = false) :
    CallsD Try.prog 30 #[.pointer (some a), .bool true] u w fun e u' w' => u' = u ∧ (e = .returned (.tuple #[]) ∧ w' = w.drew.setCell a (.int .u32 1)) := by
  have hc' : w.drew.cell? a = some x := by go_simp
  have hz' : w.drew.frozen? a = false := by go_simp
  have hst := run_call_store (P := Try.prog) Try.func33 (by kernel_rfl) (by kernel_rfl) (by kernel_rfl) (by kernel_rfl) (k := .u32) (y := 1) hc' hz'
  go_enter_d Try.func30, Try.ntmps30
  go_wp2
  go_region_calls
  all_goals (go_end0; exact ⟨rfl, rfl⟩)

/-- What the closure leaves. -/
def MadeP (w w' : World) (p : Nat) : Prop := Ke (fun k => k = p) w w' ∧ (∀ o, o < 3 → w'.cell? ⟨p, o, none⟩ = w.cell? ⟨p, o, none⟩) ∧ (∀ o, w'.frozen? ⟨p, o, none⟩ = w.frozen? ⟨p, o, none⟩) ∧ w'.cell? ⟨p, 7, none⟩ = some (.int .i64 1) ∧ ∃ bo bm be cap mb, Tab w' p w.heap.size bo bm be cap mb

theorem Ke.setp {p : Nat} {a b : World} (h : Ke (fun k => k = p) a b) (o : Nat) (u : Value) : Ke (fun k => k = p) a (b.setCell ⟨p, o, none⟩ u) := h.set (p := ⟨p, o, none⟩) (.inl rfl) u
theorem MT.tab {w W : World} {ve : Value} {p : Nat} {a b c d : Value} (h : MT w W w.heap.size ve 15 8) (hp : p < w.heap.size) (c3 : w.cell? ⟨p, 3, none⟩ = some a) (c4 : w.cell? ⟨p, 4, none⟩ = some b) (c5 : w.cell? ⟨p, 5, none⟩ = some c) (c6 : w.cell? ⟨p, 6, none⟩ = some d) (c7 : w.cell? ⟨p, 7, none⟩ = some (.int .i64 0)) :
    MadeP w (((((W.setCell ⟨p, 3, none⟩ (.slice (some ⟨w.heap.size + 1, 0, none⟩) 9 9)).setCell ⟨p, 4, none⟩ (.slice (some ⟨w.heap.size + 2, 0, none⟩) 5 5)).setCell ⟨p, 5, none⟩ ve).setCell ⟨p, 6, none⟩ (.map (some (w.heap.size + 3)))).setCell ⟨p, 7, none⟩ (.int .i64 1)) p := by
  have k : ∀ {o v}, w.cell? ⟨p, o, none⟩ = some v → W.cell? ⟨p, o, none⟩ = some v := fun q => kcell h.gr q
  obtain ⟨g, cap, rfl, hg, _, _, _⟩ := h.er.form (by omega)
  obtain ⟨D, o, n⟩ := h.mp
  have bl : ∀ (W : World) (o : Nat) (v : Value) (j : Nat), j ≠ p → (W.setCell ⟨p, o, none⟩ v).heap[j]? = W.heap[j]? := fun W o v j hj => Below.heap_setCell _ _ _ _ (fun e => hj (by simpa using e))
  have hb : ∀ j, j ≠ p → (((((W.setCell ⟨p, 3, none⟩ (.slice (some ⟨w.heap.size + 1, 0, none⟩) 9 9)).setCell ⟨p, 4, none⟩ (.slice (some ⟨w.heap.size + 2, 0, none⟩) 5 5)).setCell ⟨p, 5, none⟩ (.slice (some ⟨g, 0, none⟩) 15 cap)).setCell ⟨p, 6, none⟩ (.map (some (w.heap.size + 3)))).setCell ⟨p, 7, none⟩ (.int .i64 1)).heap[j]? = W.heap[j]? := fun j hj => by
    rw [bl _ _ _ _ hj, bl _ _ _ _ hj, bl _ _ _ _ hj, bl _ _ _ _ hj, bl _ _ _ _ hj]
  refine ⟨?_, fun o ho => ?_, fun o => ?_, ?_, w.heap.size + 1, w.heap.size + 2, g, cap, w.heap.size + 3, ?_, ?_, ?_, ?_, h.op.keep (hb _ (by omega)), h.mo.keep (hb _ (by omega)), ?_, ⟨D, own_keep o (hb _ (by omega)), n⟩, by omega, by omega, by omega, by omega⟩
  · exact (((((Ke.of_gr h.gr).setp _ _).setp _ _).setp _ _).setp _ _).setp _ _
  · rw [World.cell?_setCell_other _ _ _ _ (by simp), World.cell?_setCell_other _ _ _ _ (by simp), World.cell?_setCell_other _ _ _ _ (by simp), World.cell?_setCell_other _ _ _ _ (by simp), World.cell?_setCell_other _ _ _ _ (by simp)]
    exact h.gr.cell (by simpa using hp) (fun q => q)
  · rw [World.frozen?_setCell, World.frozen?_setCell, World.frozen?_setCell, World.frozen?_setCell, World.frozen?_setCell]
    exact h.gr.frozen (by simpa using hp) (fun q => q)
  · refine World.cell?_setCell_same _ _ _ (?_ : _ = some (.int .i64 0))
    rw [World.cell?_setCell_other _ _ _ _ (by simp), World.cell?_setCell_other _ _ _ _ (by simp), World.cell?_setCell_other _ _ _ _ (by simp), World.cell?_setCell_other _ _ _ _ (by simp)]
    exact k c7
  · rw [World.cell?_setCell_other _ _ _ _ (by simp), World.cell?_setCell_other _ _ _ _ (by simp), World.cell?_setCell_other _ _ _ _ (by simp), World.cell?_setCell_other _ _ _ _ (by simp)]
    exact World.cell?_setCell_same _ _ _ (k c3)
  · rw [World.cell?_setCell_other _ _ _ _ (by simp), World.cell?_setCell_other _ _ _ _ (by simp), World.cell?_setCell_other _ _ _ _ (by simp)]
    exact World.cell?_setCell_same _ _ _ ((World.cell?_setCell_other _ _ _ _ (by simp)).trans (k c4))
  · rw [World.cell?_setCell_other _ _ _ _ (by simp), World.cell?_setCell_other _ _ _ _ (by simp)]
    exact World.cell?_setCell_same _ _ _ ((World.cell?_setCell_other _ _ _ _ (by simp)).trans ((World.cell?_setCell_other _ _ _ _ (by simp)).trans (k c5)))
  · rw [World.cell?_setCell_other _ _ _ _ (by simp)]
    exact World.cell?_setCell_same _ _ _ ((World.cell?_setCell_other _ _ _ _ (by simp)).trans ((World.cell?_setCell_other _ _ _ _ (by simp)).trans ((World.cell?_setCell_other _ _ _ _ (by simp)).trans (k c6))))
  · have := h.er.cell
    exact Wd.keep (w := W) (fun j hj => by have := h.er.cell j (by omega); simpa [sw] using this) (hb _ (by omega))
end Go.Proofs.Ytldogmifealkkaa
