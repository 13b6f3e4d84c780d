/- Words of commands, modes, errors; worlds that keep all but some blocks; the lock. -/
import Derived.Test.YtldogmifealkkaaRows
import Derived.WalkKit
import Derived.Lib.Hide
import Derived.Below
import Derived.Carry
import Derived.RowKit
import Derived.Conc.MuLone
import Derived.Laws.LoneSync
import Derived.Laws.NewBlocks
import Derived.Deep.RegionHeld3
import Derived.StillTailTactics
import Derived.BigQuiet
namespace Go.Proofs.Ytldogmifealkkaa
open Go.RowKit Go.Lib
set_option linter.unusedVariables false

/-- The words of the commands. -/
def opW : Nat → ByteArray
  | 0 => ⟨#[]⟩
  | 1 => ⟨#[106, 111, 105, 110]⟩
  | 2 => ⟨#[115, 112, 111, 114, 97, 100, 105, 99]⟩
  | 3 => ⟨#[108, 101, 97, 118, 101]⟩
  | 4 => ⟨#[97, 98, 111, 114, 116]⟩
  | 5 => ⟨#[97, 114, 114, 105, 118, 101]⟩
  | 6 => ⟨#[100, 111, 110, 101]⟩
  | 7 => ⟨#[98, 97, 99, 107]⟩
  | 8 => ⟨#[116, 105, 99, 107]⟩
  | _ => ⟨#[]⟩

/-- The words of the modes. -/
def moW : Nat → ByteArray
  | 0 => ⟨#[]⟩
  | 1 => ⟨#[112, 102, 97, 105, 114]⟩
  | 2 => ⟨#[101, 97, 114, 108, 121]⟩
  | 3 => ⟨#[119, 114, 97, 112]⟩
  | 4 => ⟨#[116, 119, 105, 110]⟩
  | _ => ⟨#[]⟩

/-- The words of the errors. -/
def erW : Nat → ByteArray
  | 0 => ⟨#[111, 107]⟩
  | 1 => ⟨#[102, 111, 114, 109]⟩
  | 2 => ⟨#[97, 114, 103, 117, 109, 101, 110, 116]⟩
  | 3 => ⟨#[104, 111, 114, 105, 122, 111, 110]⟩
  | 4 => ⟨#[116, 104, 101, 114, 101]⟩
  | 5 => ⟨#[110, 111, 110, 101]⟩
  | 6 => ⟨#[102, 117, 108, 108]⟩
  | 7 => ⟨#[112, 101, 114, 105, 111, 100, 115]⟩
  | 8 => ⟨#[119, 101, 105, 103, 104, 116]⟩
  | 9 => ⟨#[107, 105, 110, 100]⟩
  | 10 => ⟨#[98, 117, 115, 121]⟩
  | 11 => ⟨#[105, 100, 108, 101]⟩
  | 12 => ⟨#[100, 111, 110, 101]⟩
  | 13 => ⟨#[108, 101, 97, 118, 105, 110, 103]⟩
  | 14 => ⟨#[111, 118, 101, 114, 102, 108, 111, 119]⟩
  | _ => ⟨#[101, 114, 114, 111, 114]⟩

/-- The word at i of n, or another one. -/
def atW (f : Nat → ByteArray) (n : Nat) (i : Int) (o : ByteArray) : ByteArray := if 0 ≤ i ∧ i < n then f i.toNat else o

/-- The lock's functions and types of this program. -/
abbrev muLink : Go.Conc.Locks.MuLink := { lock := 28, unlock := 29, ilock := 31, iunlock := 32, lockSlow := 39, unlockSlow := 42, disable := 35, enable := 37, acquire := 38, relMerge := 40, cas32 := 36, add32 := 41, tMutex := 46, tIMutex := 44, tPMutex := 73, tPIMutex := 76, tPI32 := 78, tUP := 80, tNoCopy := 38, tU32 := 40 }
theorem muLib : Go.Conc.Locks.MuLib Try.prog muLink :=
  ⟨Try.func28, Try.func29, Try.func31, Try.func32, Try.func35, Try.func37, Try.func38, Try.func40, Try.func36, Try.func41, Try.underlying44, Try.runUnderlying44, Try.sizeOf44, Try.isAgg44, Try.zeroValue44, Try.underlying46, Try.runUnderlying46, Try.sizeOf46, Try.isAgg46, Try.zeroValue46, Try.underlying73, Try.runUnderlying73, Try.sizeOf73, Try.isAgg73, Try.zeroValue73, Try.underlying76, Try.runUnderlying76, Try.sizeOf76, Try.isAgg76, Try.zeroValue76, Try.underlying78, Try.runUnderlying78, Try.sizeOf78, Try.isAgg78, Try.zeroValue78, Try.underlying80, Try.runUnderlying80, Try.sizeOf80, Try.isAgg80, Try.zeroValue80, Try.underlying38, Try.runUnderlying38, Try.sizeOf38, Try.isAgg38, Try.zeroValue38, Try.underlying21, Try.runUnderlying21, Try.sizeOf21, Try.isAgg21, Try.zeroValue21, (by kernel_rfl)⟩
/-- All that was there is as it was, but the blocks of F. -/
structure Ke (F : Nat → Prop) (w w' : World) : Prop where
  os : w'.os = w.os
  output : w'.output = w.output
  size : w.heap.size ≤ w'.heap.size
  block : ∀ k, k < w.heap.size → ¬ F k → w'.heap[k]? = w.heap[k]?
/-- Nothing but new blocks. -/
abbrev Gr (w w' : World) : Prop := Ke (fun _ => False) w w'

theorem Ke.refl (F : Nat → Prop) (w : World) : Ke F w w := ⟨rfl, rfl, Nat.le_refl _, fun _ _ _ => rfl⟩
theorem Ke.trans {F : Nat → Prop} {a b c : World} (h : Ke F a b) (k : Ke F b c) : Ke F a c :=
  ⟨k.os.trans h.os, k.output.trans h.output, Nat.le_trans h.size k.size, fun j hj hn => (k.block j (Nat.lt_of_lt_of_le hj h.size) hn).trans (h.block j hj hn)⟩
theorem Ke.mono {F G : Nat → Prop} {a b : World} (h : Ke F a b) (i : ∀ k, k < a.heap.size → F k → G k) : Ke G a b := ⟨h.os, h.output, h.size, fun j hj hn => h.block j hj (fun q => hn (i j hj q))⟩
theorem Ke.of_gr {F : Nat → Prop} {a b : World} (h : Gr a b) : Ke F a b := h.mono (fun _ _ q => q.elim)
theorem Ke.gr {F : Nat → Prop} {a b c : World} (h : Ke F a b) (k : Gr b c) : Ke F a c := h.trans (Ke.of_gr k)
theorem Ke.drew {F : Nat → Prop} {a b : World} (h : Ke F a b) : Ke F a b.drew := ⟨h.os, h.output, h.size, h.block⟩
theorem Ke.drewN {F : Nat → Prop} {a b : World} (h : Ke F a b) (n : Nat) : Ke F a (b.drewN n) := ⟨h.os, h.output, h.size, h.block⟩
theorem Ke.alloc {F : Nat → Prop} {a b : World} (h : Ke F a b) (o : Obj) : Ke F a (b.alloc o) := h.trans ⟨rfl, rfl, by simp, fun k hk _ => Below.heap_alloc _ _ _ hk⟩
theorem Ke.set {F : Nat → Prop} {a b : World} (h : Ke F a b) {p : Addr} (hp : F p.block ∨ a.heap.size ≤ p.block) (u : Value) : Ke F a (b.setCell p u) :=
  ⟨h.os, h.output, by simpa [World.setCell] using h.size, fun k hk hn => (Below.heap_setCell _ _ _ _ (fun e => by
    rcases hp with q | q
    · rw [← e] at q; exact hn q
    · omega)).trans (h.block k hk hn)⟩
theorem Ke.grown {F : Nat → Prop} {a w w' : World} {row : Option Nat} (h : Ke F a w) (hg : w.grownBy w' row) (hr : ∀ k, row = some k → F k ∨ a.heap.size ≤ k) : Ke F a w' :=
  ⟨hg.os.trans h.os, hg.output.trans h.output, Nat.le_trans h.size hg.size, fun k hk hn => (hg.block k (Nat.lt_of_lt_of_le hk h.size) (fun e => by
    rcases hr k e.symm with q | q
    · exact hn q
    · omega)).trans (h.block k hk hn)⟩
theorem Ke.cell {F : Nat → Prop} {w w' : World} (h : Ke F w w') {p : Addr} (hp : p.block < w.heap.size) (hn : ¬ F p.block) : w'.cell? p = w.cell? p := World.cell?_of_block (h.block p.block hp hn)
theorem Ke.frozen {F : Nat → Prop} {w w' : World} (h : Ke F w w') {p : Addr} (hp : p.block < w.heap.size) (hn : ¬ F p.block) : w'.frozen? p = w.frozen? p := World.frozen?_of_block (h.block p.block hp hn)
theorem Ke.frame {F : Nat → Prop} {w w' : World} (h : Ke F w w') (hn : ∀ k, k < w.heap.size → ¬ F k) (may : MemPlace → Prop) : w.keptBut w' may := by
  refine ⟨h.os, h.output, fun i hi => ?_⟩
  rw [h.block i hi (hn i hi)]
  split <;> simp_all
theorem Ke.trod {F : Nat → Prop} {H : Type} {enc : TypeId × Value → H} {P : Program} {t : TypeId} {W W' : World} (hb : Ke F W W') (hn : ∀ k, k < W.heap.size → ¬ F k) (hl : laidOutB P = true) (hr : P.readableRec t = true) (hrow : t < P.types.size) {v : Value} {d : DataW H} {ps : List MemPlace}
    (h : DataW.Trod enc P W 0 (fun _ => true) true t v d ps) (hlt : ∀ x ∈ ps, x.block < W.heap.size) :
    DataW.Trod enc P W' 0 (fun b => decide (b < W.heap.size)) true t v d ps :=
  WideElems.Trod_stays hl hr hrow h (fun x hx => by
    have q := hlt x hx
    cases x with
    | cell b o => exact World.cell?_of_block (w := W) (hb.block b q (hn b q))
    | map b => exact hb.block b q (hn b q)) (fun x hx => by simpa using hlt x hx)

theorem cell_lt {w : World} {a : Addr} {v : Value} (h : w.cell? a = some v) : a.block < w.heap.size := World.block_lt_of_cell? w a h
/-- A cell behind a call that only lays new blocks. -/
theorem kcell {w w' : World} (h : Gr w w') {a : Addr} {v : Value} (c : w.cell? a = some v) : w'.cell? a = some v := (h.cell (cell_lt c) (fun q => q)).trans c

/-- A cell's mark behind a call that only lays new blocks. -/
theorem kfz {w w' : World} (h : Gr w w') {a : Addr} (hp : a.block < w.heap.size) {x : Bool} (c : w.frozen? a = x) : w'.frozen? a = x := (h.frozen hp (fun q => q)).trans c
end Go.Proofs.Ytldogmifealkkaa
