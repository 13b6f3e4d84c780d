/- Worlds that keep all but some blocks; a ring in memory; contracts of the atomic number. -/
import Derived.Test.YtgnfmmoanmhgpaaRows
import Derived.WalkKit
import Derived.Lib.Hide
import Derived.Below
import Derived.Carry
import Derived.RowKit
import Derived.Laws.LoneSync
import Derived.Laws.NewBlocks
import Derived.Deep.OwnRows
import Derived.Deep.LoopGhost
import Derived.Deep.RegionHeld3
import Derived.StillTailTactics
import Derived.BigQuiet
namespace Go.Proofs.Ytgnfmmoanmhgpaa
open Go.RowKit Go.Lib
set_option linter.unusedVariables false

/-- All that was there is as it was, but the blocks of F. -/
structure Ke (F : Nat → Prop) (w w' : World) : Prop where
  os : w'.os = w.os
  output : w'.output = w.output
  size : w.heap.size ≤ w'.heap.size
  block : ∀ k, k < w.heap.size → ¬ F k → w'.heap[k]? = w.heap[k]?
/-- Nothing but new blocks. -/
abbrev Gr (w w' : World) : Prop := Ke (fun _ => False) w w'

theorem Ke.refl (F : Nat → Prop) (w : World) : Ke F w w := ⟨rfl, rfl, Nat.le_refl _, fun _ _ _ => rfl⟩
theorem Ke.trans {F : Nat → Prop} {a b c : World} (h : Ke F a b) (k : Ke F b c) : Ke F a c :=
  ⟨k.os.trans h.os, k.output.trans h.output, Nat.le_trans h.size k.size, fun j hj hn => (k.block j (Nat.lt_of_lt_of_le hj h.size) hn).trans (h.block j hj hn)⟩
theorem Ke.mono {F G : Nat → Prop} {a b : World} (h : Ke F a b) (i : ∀ k, k < a.heap.size → F k → G k) : Ke G a b := ⟨h.os, h.output, h.size, fun j hj hn => h.block j hj (fun q => hn (i j hj q))⟩
theorem Ke.of_gr {F : Nat → Prop} {a b : World} (h : Gr a b) : Ke F a b := h.mono (fun _ _ q => q.elim)
theorem Ke.gr {F : Nat → Prop} {a b c : World} (h : Ke F a b) (k : Gr b c) : Ke F a c := h.trans (Ke.of_gr k)
theorem Ke.drew {F : Nat → Prop} {a b : World} (h : Ke F a b) : Ke F a b.drew := ⟨h.os, h.output, h.size, h.block⟩
theorem Ke.drewN {F : Nat → Prop} {a b : World} (h : Ke F a b) (n : Nat) : Ke F a (b.drewN n) := ⟨h.os, h.output, h.size, h.block⟩
theorem Ke.alloc {F : Nat → Prop} {a b : World} (h : Ke F a b) (o : Obj) : Ke F a (b.alloc o) := h.trans ⟨rfl, rfl, by simp, fun k hk _ => Below.heap_alloc _ _ _ hk⟩
theorem Ke.set {F : Nat → Prop} {a b : World} (h : Ke F a b) {p : Addr} (hp : F p.block ∨ a.heap.size ≤ p.block) (u : Value) : Ke F a (b.setCell p u) :=
  ⟨h.os, h.output, by simpa [World.setCell] using h.size, fun k hk hn => (Below.heap_setCell _ _ _ _ (fun e => by
    rcases hp with q | q
    · rw [← e] at q; exact hn q
    · omega)).trans (h.block k hk hn)⟩
theorem Ke.grown {F : Nat → Prop} {a w w' : World} {row : Option Nat} (h : Ke F a w) (hg : w.grownBy w' row) (hr : ∀ k, row = some k → F k ∨ a.heap.size ≤ k) : Ke F a w' :=
  ⟨hg.os.trans h.os, hg.output.trans h.output, Nat.le_trans h.size hg.size, fun k hk hn => (hg.block k (Nat.lt_of_lt_of_le hk h.size) (fun e => by
    rcases hr k e.symm with q | q
    · exact hn q
    · omega)).trans (h.block k hk hn)⟩
theorem Ke.cell {F : Nat → Prop} {w w' : World} (h : Ke F w w') {p : Addr} (hp : p.block < w.heap.size) (hn : ¬ F p.block) : w'.cell? p = w.cell? p := World.cell?_of_block (h.block p.block hp hn)
theorem Ke.frozen {F : Nat → Prop} {w w' : World} (h : Ke F w w') {p : Addr} (hp : p.block < w.heap.size) (hn : ¬ F p.block) : w'.frozen? p = w.frozen? p := World.frozen?_of_block (h.block p.block hp hn)
theorem Ke.frame {F : Nat → Prop} {w w' : World} (h : Ke F w w') (hn : ∀ k, k < w.heap.size → ¬ F k) (may : MemPlace → Prop) : w.keptBut w' may := by
  refine ⟨h.os, h.output, fun i hi => ?_⟩
  rw [h.block i hi (hn i hi)]
  split <;> simp_all
theorem Ke.trod {F : Nat → Prop} {H : Type} {enc : TypeId × Value → H} {P : Program} {t : TypeId} {W W' : World} (hb : Ke F W W') (hn : ∀ k, k < W.heap.size → ¬ F k) (hl : laidOutB P = true) (hr : P.readableRec t = true) (hrow : t < P.types.size) {v : Value} {d : DataW H} {ps : List MemPlace}
    (h : DataW.Trod enc P W 0 (fun _ => true) true t v d ps) (hlt : ∀ x ∈ ps, x.block < W.heap.size) :
    DataW.Trod enc P W' 0 (fun b => decide (b < W.heap.size)) true t v d ps :=
  WideElems.Trod_stays hl hr hrow h (fun x hx => by
    have q := hlt x hx
    cases x with
    | cell b o => exact World.cell?_of_block (w := W) (hb.block b q (hn b q))
    | map b => exact hb.block b q (hn b q)) (fun x hx => by simpa using hlt x hx)

theorem cell_lt {w : World} {a : Addr} {v : Value} (h : w.cell? a = some v) : a.block < w.heap.size := World.block_lt_of_cell? w a h
/-- A cell behind a call that only lays new blocks. -/
theorem kcell {w w' : World} (h : Gr w w') {a : Addr} {v : Value} (c : w.cell? a = some v) : w'.cell? a = some v := (h.cell (cell_lt c) (fun q => q)).trans c

/-- A cell's mark behind a call that only lays new blocks. -/
theorem kfz {w w' : World} (h : Gr w w') {a : Addr} (hp : a.block < w.heap.size) {x : Bool} (c : w.frozen? a = x) : w'.frozen? a = x := (h.frozen hp (fun q => q)).trans c

/-- A piece; an entry. -/
structure Pc where
  e : Int
  c : Int
  i : Int
  fn : Int
  fd : Int
  tn : Int
  td : Int
  s : Bool
  deriving Inhabited
structure En where
  q : Int
  c : Int
  p : Pc
  deriving Inhabited
abbrev pcV (x : Pc) : Value := .agg #[.int .i64 x.e, .int .i64 x.c, .int .i64 x.i, .int .i64 x.fn, .int .i64 x.fd, .int .i64 x.tn, .int .i64 x.td, .bool x.s]
abbrev enV (x : En) : Value := .agg #[.int .i64 x.q, .int .i64 x.c, .int .i64 x.p.e, .int .i64 x.p.c, .int .i64 x.p.i, .int .i64 x.p.fn, .int .i64 x.p.fd, .int .i64 x.p.tn, .int .i64 x.p.td, .bool x.p.s]
def pc0 : Pc := ⟨0, 0, 0, 0, 0, 0, 0, false⟩
def en0 : En := ⟨0, 0, pc0⟩
def cellE (x : En) : Nat → Value
  | 0 => .int .i64 x.q
  | 1 => .int .i64 x.c
  | 2 => .int .i64 x.p.e
  | 3 => .int .i64 x.p.c
  | 4 => .int .i64 x.p.i
  | 5 => .int .i64 x.p.fn
  | 6 => .int .i64 x.p.fd
  | 7 => .int .i64 x.p.tn
  | 8 => .int .i64 x.p.td
  | _ => .bool x.p.s

/-- A ring at block p, its places at block g: room for k, m were put, those that are kept are E's. -/
structure Rg (w : World) (p g k m : Nat) (E : Nat → En) : Prop where
  c0 : w.cell? ⟨p, 0, none⟩ = some (.slice (some ⟨g, 0, none⟩) k k)
  c1 : w.cell? ⟨p, 1, none⟩ = some (.int .i64 m)
  fz : ∀ o, w.frozen? ⟨p, o, none⟩ = false
  ne : p ≠ g
  k6 : k ≤ 4096
  row : ∃ f, w.rowIs g 33 (k * 10) f ∧ ∀ s, s < m → m ≤ s + k → ∀ o, o < 10 → f (s % k * 10 + o) = cellE (E s) o
/-- Its two blocks. -/
def Ft (p g : Nat) (j : Nat) : Prop := j = p ∨ j = g
section
variable {w w' : World} {p g k m : Nat} {E : Nat → En}
theorem Rg.pl (h : Rg w p g k m E) : p < w.heap.size := cell_lt h.c0
theorem Rg.gl (h : Rg w p g k m E) : g < w.heap.size := by
  obtain ⟨f, hr, _⟩ := h.row
  exact hr.lt
theorem Rg.keep (h : Rg w p g k m E) (qp : w'.heap[p]? = w.heap[p]?) (qg : w'.heap[g]? = w.heap[g]?) : Rg w' p g k m E := by
  obtain ⟨f, hr, hf⟩ := h.row
  exact ⟨(World.cell?_of_block qp).trans h.c0, (World.cell?_of_block qp).trans h.c1, fun o => (World.frozen?_of_block (a := ⟨p, o, none⟩) qp).trans (h.fz o), h.ne, h.k6, f, hr.of_block qg, hf⟩
theorem Rg.ke {F : Nat → Prop} (h : Rg w p g k m E) (q : Ke F w w') (hp : ¬ F p) (hg : ¬ F g) : Rg w' p g k m E := h.keep (q.block p h.pl hp) (q.block g h.gl hg)
theorem Rg.gr (h : Rg w p g k m E) (q : Gr w w') : Rg w' p g k m E := h.ke q (fun x => x) (fun x => x)
theorem Rg.congr {E' : Nat → En} (h : Rg w p g k m E) (q : ∀ s, s < m → E' s = E s) : Rg w p g k m E' := by
  obtain ⟨f, hr, hf⟩ := h.row
  exact { h with row := ⟨f, hr, fun s h1 h2 o ho => by rw [q s h1]; exact hf s h1 h2 o ho⟩ }
/-- The cells of one that is kept. -/
theorem Rg.cell (h : Rg w p g k m E) {s : Nat} (h1 : s < m) (h2 : m ≤ s + k) {o : Nat} (ho : o < 10) : w.cell? ⟨g, s % k * 10 + o, none⟩ = some (cellE (E s) o) := by
  obtain ⟨f, hr, hf⟩ := h.row
  have hk : 0 < k := by omega
  have := Nat.mod_lt s hk
  rw [hr.cell (by omega), hf s h1 h2 o ho]
/-- A place's cells, whatever they hold. -/
theorem Rg.some (h : Rg w p g k m E) (s : Nat) (hk : 0 < k) {o : Nat} (ho : o < 10) : ∃ v, w.cell? ⟨g, s % k * 10 + o, none⟩ = some v := by
  obtain ⟨f, hr, hf⟩ := h.row
  have := Nat.mod_lt s hk
  exact ⟨_, hr.cell (by omega)⟩
theorem Rg.frozen (h : Rg w p g k m E) (j : Nat) : w.frozen? ⟨g, j, none⟩ = false := by
  obtain ⟨f, hr, hf⟩ := h.row
  exact hr.frozen j
/-- The number that comes next, stored. -/
theorem Rg.next0 (h : Rg w p g 0 m E) {y : Int} (hy : y = ((m + 1 : Nat) : Int)) : Rg (w.setCell ⟨p, 1, none⟩ (.int .i64 y)) p g 0 (m + 1) E := by
  subst hy
  obtain ⟨f, hr, hf⟩ := h.row
  refine ⟨(World.cell?_setCell_other w _ _ _ (fun q => by cases q)).trans h.c0, World.cell?_setCell_same w _ _ h.c1, fun o => by simpa using h.fz o, h.ne, h.k6, f, hr.setOther (fun q => h.ne q.symm) _, fun s h1 h2 => by omega⟩
/-- .. behind the ten stores of the entry. -/
theorem Rg.put (h : Rg w p g k m E) (hk : 0 < k) {X : World} (hX : X = ((((((((((w.setCell ⟨g, m % k * 10, none⟩ (cellE (E m) 0)).setCell ⟨g, m % k * 10 + 1, none⟩ (cellE (E m) 1)).setCell ⟨g, m % k * 10 + 2, none⟩ (cellE (E m) 2)).setCell ⟨g, m % k * 10 + 3, none⟩ (cellE (E m) 3)).setCell ⟨g, m % k * 10 + 4, none⟩ (cellE (E m) 4)).setCell ⟨g, m % k * 10 + 5, none⟩ (cellE (E m) 5)).setCell ⟨g, m % k * 10 + 6, none⟩ (cellE (E m) 6)).setCell ⟨g, m % k * 10 + 7, none⟩ (cellE (E m) 7)).setCell ⟨g, m % k * 10 + 8, none⟩ (cellE (E m) 8)).setCell ⟨g, m % k * 10 + 9, none⟩ (cellE (E m) 9))) :
    X.cell? ⟨p, 1, none⟩ = .some (.int .i64 m) ∧ X.frozen? ⟨p, 1, none⟩ = false ∧ Ke (Ft p g) w X ∧ ∀ Y, Gr X Y → ∀ y : Int, y = ((m + 1 : Nat) : Int) → Rg (Y.setCell ⟨p, 1, none⟩ (.int .i64 y)) p g k (m + 1) E := by
  have ke : Ke (Ft p g) w X := by
    rw [hX]
    exact ((((((((((Ke.refl (Ft p g) w).set (.inl (.inr rfl)) _).set (.inl (.inr rfl)) _).set (.inl (.inr rfl)) _).set (.inl (.inr rfl)) _).set (.inl (.inr rfl)) _).set (.inl (.inr rfl)) _).set (.inl (.inr rfl)) _).set (.inl (.inr rfl)) _).set (.inl (.inr rfl)) _).set (.inl (.inr rfl)) _
  have eb : X.heap[p]? = w.heap[p]? := by
    rw [hX]
    repeat rw [Below.heap_setCell _ _ _ _ h.ne]
  obtain ⟨f, hr, hf⟩ := h.row
  have hrX := (((((((((hr.set (m % k * 10) (cellE (E m) 0)).set (m % k * 10 + 1) (cellE (E m) 1)).set (m % k * 10 + 2) (cellE (E m) 2)).set (m % k * 10 + 3) (cellE (E m) 3)).set (m % k * 10 + 4) (cellE (E m) 4)).set (m % k * 10 + 5) (cellE (E m) 5)).set (m % k * 10 + 6) (cellE (E m) 6)).set (m % k * 10 + 7) (cellE (E m) 7)).set (m % k * 10 + 8) (cellE (E m) 8)).set (m % k * 10 + 9) (cellE (E m) 9)
  rw [← hX] at hrX
  refine ⟨(World.cell?_of_block eb).trans h.c1, (World.frozen?_of_block (a := ⟨p, 1, none⟩) eb).trans (h.fz 1), ke, fun Y gY y hy => ?_⟩
  subst hy
  have hp := h.pl
  have hg := h.gl
  have ebY : Y.heap[p]? = w.heap[p]? := (gY.block p (Nat.lt_of_lt_of_le hp ke.size) (fun x => x)).trans eb
  have hrY := hrX.of_block (gY.block g (Nat.lt_of_lt_of_le hg ke.size) (fun x => x))
  refine ⟨(World.cell?_setCell_other Y _ _ _ (fun q => by cases q)).trans ((World.cell?_of_block ebY).trans h.c0), World.cell?_setCell_same Y _ _ ((World.cell?_of_block ebY).trans h.c1), fun o => by simpa using (World.frozen?_of_block (a := ⟨p, o, none⟩) ebY).trans (h.fz o), h.ne, h.k6, _, hrY.setOther (fun q => h.ne q.symm) _, fun s h1 h2 o ho => ?_⟩
  have hmk := Nat.mod_lt m hk
  by_cases e : s = m
  · subst e
    rcases (show o = 0 ∨ o = 1 ∨ o = 2 ∨ o = 3 ∨ o = 4 ∨ o = 5 ∨ o = 6 ∨ o = 7 ∨ o = 8 ∨ o = 9 by omega) with rfl | rfl | rfl | rfl | rfl | rfl | rfl | rfl | rfl | rfl <;> simp
  · have hd : s % k ≠ m % k := fun q => by
      have := Nat.sub_mod_eq_zero_of_mod_eq q.symm
      rw [Nat.mod_eq_of_lt (by omega)] at this
      omega
    rw [if_neg (by omega), if_neg (by omega), if_neg (by omega), if_neg (by omega), if_neg (by omega), if_neg (by omega), if_neg (by omega), if_neg (by omega), if_neg (by omega), if_neg (by omega)]
    exact hf s (by omega) (by omega) o ho
end

/-- (*sync/atomic.Int64).Load. -/
theorem iload_any {w : World} {p o : Nat} {x : Int} (h : w.cell? ⟨p, o, none⟩ = some (.int .i64 x)) : Calls Try.prog 12 #[.pointer (some ⟨p, o, none⟩)] w fun e w' => e = .returned (.int .i64 x) ∧ w' = w := by
  have hl := run_call_load (P := Try.prog) Try.func16 (by kernel_rfl) (by kernel_rfl) (by kernel_rfl) .i64 (by kernel_rfl) h
  go_enter Try.func12, Try.ntmps12
  go_wp2
  all_goals (try go_ret)
  all_goals (exact ⟨rfl, rfl⟩)

/-- (*sync/atomic.Int64).Store. -/
theorem istore_any {w : World} {p o : Nat} {u : Value} {x : Int} (h : w.cell? ⟨p, o, none⟩ = some u) (hz : w.frozen? ⟨p, o, none⟩ = false) : Calls Try.prog 14 #[.pointer (some ⟨p, o, none⟩), .int .i64 x] w fun e w' => e = .returned (.tuple #[]) ∧ w' = w.setCell ⟨p, o, none⟩ (.int .i64 x) := by
  have hl := run_call_store (P := Try.prog) Try.func17 (by kernel_rfl) (by kernel_rfl) (by kernel_rfl) (by kernel_rfl) (k := .i64) (y := x) h hz
  have hp := cell_lt h
  go_enter Try.func14, Try.ntmps14
  go_wp2
  all_goals (try go_ret)
  all_goals (try go_end0)
  all_goals (exact ⟨rfl, rfl⟩)
end Go.Proofs.Ytgnfmmoanmhgpaa
