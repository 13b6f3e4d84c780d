/- Worlds that keep all but some blocks; contracts of a meter. -/
import Derived.Test.YthglpaijeijbhaaRows
import Derived.WalkKit
import Derived.Lib.Hide
import Derived.Below
import Derived.Carry
import Derived.RowKit
import Derived.Laws.LoneSync
import Derived.Laws.NewBlocks
import Derived.Deep.OwnRows
import Derived.Deep.LoopGhost
import Derived.Deep.RegionHeld3
import Derived.StillTailTactics
import Derived.BigQuiet
namespace Go.Proofs.Ythglpaijeijbhaa
open Go.RowKit Go.Lib
set_option linter.unusedVariables false

/-- All that was there is as it was, but the blocks of F. -/
structure Ke (F : Nat → Prop) (w w' : World) : Prop where
  os : w'.os = w.os
  output : w'.output = w.output
  size : w.heap.size ≤ w'.heap.size
  block : ∀ k, k < w.heap.size → ¬ F k → w'.heap[k]? = w.heap[k]?
/-- Nothing but new blocks. -/
abbrev Gr (w w' : World) : Prop := Ke (fun _ => False) w w'

theorem Ke.refl (F : Nat → Prop) (w : World) : Ke F w w := ⟨rfl, rfl, Nat.le_refl _, fun _ _ _ => rfl⟩
theorem Ke.trans {F : Nat → Prop} {a b c : World} (h : Ke F a b) (k : Ke F b c) : Ke F a c :=
  ⟨k.os.trans h.os, k.output.trans h.output, Nat.le_trans h.size k.size, fun j hj hn => (k.block j (Nat.lt_of_lt_of_le hj h.size) hn).trans (h.block j hj hn)⟩
theorem Ke.mono {F G : Nat → Prop} {a b : World} (h : Ke F a b) (i : ∀ k, k < a.heap.size → F k → G k) : Ke G a b := ⟨h.os, h.output, h.size, fun j hj hn => h.block j hj (fun q => hn (i j hj q))⟩
theorem Ke.of_gr {F : Nat → Prop} {a b : World} (h : Gr a b) : Ke F a b := h.mono (fun _ _ q => q.elim)
theorem Ke.gr {F : Nat → Prop} {a b c : World} (h : Ke F a b) (k : Gr b c) : Ke F a c := h.trans (Ke.of_gr k)
theorem Ke.drew {F : Nat → Prop} {a b : World} (h : Ke F a b) : Ke F a b.drew := ⟨h.os, h.output, h.size, h.block⟩
theorem Ke.drewN {F : Nat → Prop} {a b : World} (h : Ke F a b) (n : Nat) : Ke F a (b.drewN n) := ⟨h.os, h.output, h.size, h.block⟩
theorem Ke.alloc {F : Nat → Prop} {a b : World} (h : Ke F a b) (o : Obj) : Ke F a (b.alloc o) := h.trans ⟨rfl, rfl, by simp, fun k hk _ => Below.heap_alloc _ _ _ hk⟩
theorem Ke.set {F : Nat → Prop} {a b : World} (h : Ke F a b) {p : Addr} (hp : F p.block ∨ a.heap.size ≤ p.block) (u : Value) : Ke F a (b.setCell p u) :=
  ⟨h.os, h.output, by simpa [World.setCell] using h.size, fun k hk hn => (Below.heap_setCell _ _ _ _ (fun e => by
    rcases hp with q | q
    · rw [← e] at q; exact hn q
    · omega)).trans (h.block k hk hn)⟩
theorem Ke.grown {F : Nat → Prop} {a w w' : World} {row : Option Nat} (h : Ke F a w) (hg : w.grownBy w' row) (hr : ∀ k, row = some k → F k ∨ a.heap.size ≤ k) : Ke F a w' :=
  ⟨hg.os.trans h.os, hg.output.trans h.output, Nat.le_trans h.size hg.size, fun k hk hn => (hg.block k (Nat.lt_of_lt_of_le hk h.size) (fun e => by
    rcases hr k e.symm with q | q
    · exact hn q
    · omega)).trans (h.block k hk hn)⟩
theorem Ke.cell {F : Nat → Prop} {w w' : World} (h : Ke F w w') {p : Addr} (hp : p.block < w.heap.size) (hn : ¬ F p.block) : w'.cell? p = w.cell? p := World.cell?_of_block (h.block p.block hp hn)
theorem Ke.frozen {F : Nat → Prop} {w w' : World} (h : Ke F w w') {p : Addr} (hp : p.block < w.heap.size) (hn : ¬ F p.block) : w'.frozen? p = w.frozen? p := World.frozen?_of_block (h.block p.block hp hn)
theorem Ke.frame {F : Nat → Prop} {w w' : World} (h : Ke F w w') (hn : ∀ k, k < w.heap.size → ¬ F k) (may : MemPlace → Prop) : w.keptBut w' may := by
  refine ⟨h.os, h.output, fun i hi => ?_⟩
  rw [h.block i hi (hn i hi)]
  split <;> simp_all
theorem Ke.trod {F : Nat → Prop} {H : Type} {enc : TypeId × Value → H} {P : Program} {t : TypeId} {W W' : World} (hb : Ke F W W') (hn : ∀ k, k < W.heap.size → ¬ F k) (hl : laidOutB P = true) (hr : P.readableRec t = true) (hrow : t < P.types.size) {v : Value} {d : DataW H} {ps : List MemPlace}
    (h : DataW.Trod enc P W 0 (fun _ => true) true t v d ps) (hlt : ∀ x ∈ ps, x.block < W.heap.size) :
    DataW.Trod enc P W' 0 (fun b => decide (b < W.heap.size)) true t v d ps :=
  WideElems.Trod_stays hl hr hrow h (fun x hx => by
    have q := hlt x hx
    cases x with
    | cell b o => exact World.cell?_of_block (w := W) (hb.block b q (hn b q))
    | map b => exact hb.block b q (hn b q)) (fun x hx => by simpa using hlt x hx)

theorem cell_lt {w : World} {a : Addr} {v : Value} (h : w.cell? a = some v) : a.block < w.heap.size := World.block_lt_of_cell? w a h
/-- A cell behind a call that only lays new blocks. -/
theorem kcell {w w' : World} (h : Gr w w') {a : Addr} {v : Value} (c : w.cell? a = some v) : w'.cell? a = some v := (h.cell (cell_lt c) (fun q => q)).trans c

/-- A cell's mark behind a call that only lays new blocks. -/
theorem kfz {w w' : World} (h : Gr w w') {a : Addr} (hp : a.block < w.heap.size) {x : Bool} (c : w.frozen? a = x) : w'.frozen? a = x := (h.frozen hp (fun q => q)).trans c

/-- A meter at block p: what its counters are. -/
def M (w : World) (p : Nat) (c : Nat → Int) : Prop := w.rowIs p 45 5 (fun k => .int .i64 (c k))
def add1 (c : Nat → Int) (k : Nat) (x : Int) : Nat → Int := fun j => if j = k then x else c j
abbrev newO : Obj := .cells #[.int .i64 0, .int .i64 0, .int .i64 0, .int .i64 0, .int .i64 0] 45
theorem M.keep {w w' : World} {F : Nat → Prop} {p : Nat} {c : Nat → Int} (h : M w p c) (k : Ke F w w') (n : ¬ F p) : M w' p c := h.of_block (k.block p h.lt n)
theorem M.gr {w w' : World} {p : Nat} {c : Nat → Int} (h : M w p c) (k : Gr w w') : M w' p c := h.keep k (fun q => q)
theorem M.new (w : World) : M (w.alloc newO) w.heap.size (fun _ => 0) := World.rowIs_alloc w _ 45 (fun _ => .int .i64 0) (fun i hi => by
  simp only [List.size_toArray, List.length_cons, List.length_nil] at hi
  rcases (show i = 0 ∨ i = 1 ∨ i = 2 ∨ i = 3 ∨ i = 4 by omega) with rfl | rfl | rfl | rfl | rfl <;> rfl)
theorem M.set {w : World} {p : Nat} {c : Nat → Int} (h : M w p c) (k : Nat) (x : Int) : M (w.setCell ⟨p, k, none⟩ (.int .i64 x)) p (add1 c k x) :=
  (World.rowIs.set h k (.int .i64 x)).congr (fun i _ => by unfold add1; split <;> rfl)

/-- (*sync/atomic.Int64).Add. -/
theorem iadd_any {w : World} {p o : Nat} {x y s : Int} (h : w.cell? ⟨p, o, none⟩ = some (.int .i64 x)) (hz : w.frozen? ⟨p, o, none⟩ = false) (hs : IntKind.i64.wrap (x + y) = s) : Calls Try.prog 14 #[.pointer (some ⟨p, o, none⟩), .int .i64 y] w fun e w' => e = .returned (.int .i64 s) ∧ w' = w.setCell ⟨p, o, none⟩ (.int .i64 s) := by
  have hadd := run_call_add (P := Try.prog) Try.func16 (by kernel_rfl) (by kernel_rfl) (by kernel_rfl) .i64 (by kernel_rfl) (y := y) (s := s) h hz (by rw [← hs]; rfl)
  have hp := cell_lt h
  go_enter Try.func14, Try.ntmps14
  go_wp2
  all_goals (try go_ret)
  all_goals (exact ⟨rfl, rfl⟩)

/-- (*sync/atomic.Int64).Load. -/
theorem iload_any {w : World} {p o : Nat} {x : Int} (h : w.cell? ⟨p, o, none⟩ = some (.int .i64 x)) : Calls Try.prog 15 #[.pointer (some ⟨p, o, none⟩)] w fun e w' => e = .returned (.int .i64 x) ∧ w' = w := by
  have hl := run_call_load (P := Try.prog) Try.func17 (by kernel_rfl) (by kernel_rfl) (by kernel_rfl) .i64 (by kernel_rfl) h
  go_enter Try.func15, Try.ntmps15
  go_wp2
  all_goals (try go_ret)
  all_goals (exact ⟨rfl, rfl⟩)

/-- New. -/
theorem new_any (w : World) : Calls Try.prog 9 #[] w fun e w' => e = .returned (.pointer (some ⟨w.heap.size, 0, none⟩)) ∧ w' = w.alloc newO := by
  go_enter Try.func9, Try.ntmps9
  go_wp2
  all_goals (try go_ret)
  all_goals (exact ⟨rfl, rfl⟩)

/-- may. -/
theorem may_any (k : Int) (b : Bool) (hb : b = decide (0 ≤ k ∧ k < 5)) (w : World) : Calls Try.prog 13 #[.int .i64 k] w fun e w' => e = .returned (.bool b) ∧ w' = w := by
  by_cases h0 : 0 ≤ k
  · have d0 : decide (0 ≤ k) = true := by simp [h0]
    have e : b = decide (k < 5) := by rw [hb]; simp [h0]
    clear hb
    subst e
    go_enter Try.func13, Try.ntmps13
    go_wp2
    go_ret
    exact ⟨rfl, rfl⟩
  · have d0 : decide (0 ≤ k) = false := by simp; omega
    have e : b = false := by rw [hb]; simp [h0]
    clear hb
    subst e
    go_enter Try.func13, Try.ntmps13
    go_wp2
    go_ret
    exact ⟨rfl, rfl⟩
end Go.Proofs.Ythglpaijeijbhaa
