/- WindowKnown: the four tables by hand, as rows of the memory: each holds what the plain mathematics says of 8 in 11. -/
import Derived.Test.YtcigmcbppombhaaL3
import Derived.Deep.OwnRows
namespace Go.Proofs.Ytcigmcbppombhaa
set_option linter.unusedVariables false
open Go.RowKit

theorem quiet_same {P : Program} {f : FuncId} {args : Array Value} {w : World} {n : Nat} {v : Value}
    (h : Calls P f args (w.drewN n) fun e w' => e = .returned v ∧ w.drewN n = w') : Calls P f args (w.drewN n) fun e w'' => e = .returned v ∧ ∃ m, w'' = w.drewN m :=
  h.mono fun _ _ ⟨he, hm⟩ => ⟨he, n, hm.symm⟩

/-- Eight cells that hold what a function says. -/
theorem eight {a0 a1 a2 a3 a4 a5 a6 a7 : Int} {f : Nat → Int} (h0 : a0 = f 0) (h1 : a1 = f 1) (h2 : a2 = f 2) (h3 : a3 = f 3) (h4 : a4 = f 4) (h5 : a5 = f 5) (h6 : a6 = f 6) (h7 : a7 = f 7) :
    ∀ i, i < 8 → (#[Value.int .i64 a0, .int .i64 a1, .int .i64 a2, .int .i64 a3, .int .i64 a4, .int .i64 a5, .int .i64 a6, .int .i64 a7])[i]? = some (.int .i64 (f i)) := by
  intro i hi
  match i, hi with
  | 0, _ => rw [h0]; rfl
  | 1, _ => rw [h1]; rfl
  | 2, _ => rw [h2]; rfl
  | 3, _ => rw [h3]; rfl
  | 4, _ => rw [h4]; rfl
  | 5, _ => rw [h5]; rfl
  | 6, _ => rw [h6]; rfl
  | 7, _ => rw [h7]; rfl
  | n + 8, h => omega

def fr (j : Nat) : Int := rel 8 11 ((j : Int) + 1)
def fd (j : Nat) : Int := dl 8 11 ((j : Int) + 1)
def fb (j : Nat) : Int := bt 8 11 ((j : Int) + 1)
def fg (j : Nat) : Int := gp 8 11 ((j : Int) + 1)

structure KW (w wr : World) : Prop where
  gr : Grown w wr
  r : wr.rowIs w.heap.size 3 8 (fun j => .int .i64 (fr j))
  d : wr.rowIs (w.heap.size + 1) 3 8 (fun j => .int .i64 (fd j))
  b : wr.rowIs (w.heap.size + 1 + 1) 3 8 (fun j => .int .i64 (fb j))
  g : wr.rowIs (w.heap.size + 1 + 1 + 1) 3 8 (fun j => .int .i64 (fg j))

theorem row8 (w : World) (a0 a1 a2 a3 a4 a5 a6 a7 : Int) (f : Nat → Int) (h0 : a0 = f 0) (h1 : a1 = f 1) (h2 : a2 = f 2) (h3 : a3 = f 3) (h4 : a4 = f 4) (h5 : a5 = f 5) (h6 : a6 = f 6) (h7 : a7 = f 7) {n : Nat} (hn : w.heap.size = n) :
    (w.alloc (.cells #[Value.int .i64 a0, .int .i64 a1, .int .i64 a2, .int .i64 a3, .int .i64 a4, .int .i64 a5, .int .i64 a6, .int .i64 a7] 3)).rowIs n 3 8 (fun j => .int .i64 (f j)) := by
  subst hn
  exact World.rowIs_alloc w _ 3 _ (eight h0 h1 h2 h3 h4 h5 h6 h7)

theorem kw_start (w : World) : KW w ((((w.alloc (.cells #[.int .i64 0, .int .i64 1, .int .i64 2, .int .i64 4, .int .i64 5, .int .i64 6, .int .i64 8, .int .i64 9] 3)).alloc
    (.cells #[.int .i64 2, .int .i64 3, .int .i64 5, .int .i64 6, .int .i64 7, .int .i64 9, .int .i64 10, .int .i64 11] 3)).alloc
    (.cells #[.int .i64 1, .int .i64 1, .int .i64 1, .int .i64 1, .int .i64 1, .int .i64 1, .int .i64 1, .int .i64 0] 3)).alloc
    (.cells #[.int .i64 4, .int .i64 4, .int .i64 8, .int .i64 8, .int .i64 8, .int .i64 11, .int .i64 11, .int .i64 11] 3)) where
  gr := ((((Grown.refl w).alloc _ _).alloc _ _).alloc _ _).alloc _ _
  r := (((row8 w _ _ _ _ _ _ _ _ fr (by decide) (by decide) (by decide) (by decide) (by decide) (by decide) (by decide) (by decide) rfl).alloc _).alloc _).alloc _
  d := ((row8 _ _ _ _ _ _ _ _ _ fd (by decide) (by decide) (by decide) (by decide) (by decide) (by decide) (by decide) (by decide) (by simp)).alloc _).alloc _
  b := (row8 _ _ _ _ _ _ _ _ _ fb (by decide) (by decide) (by decide) (by decide) (by decide) (by decide) (by decide) (by decide) (by simp)).alloc _
  g := row8 _ _ _ _ _ _ _ _ _ fg (by decide) (by decide) (by decide) (by decide) (by decide) (by decide) (by decide) (by decide) (by simp)

theorem KW.drewN {w wr : World} (h : KW w wr) (n : Nat) : KW w (wr.drewN n) := ⟨h.gr, h.r, h.d, h.b, h.g⟩

def Kn (w : World) (i : Value) (wr : World) : Prop := ∃ k : Nat, i = .int .i64 (k : Int) ∧ k ≤ 8 ∧ KW w wr

end Go.Proofs.Ytcigmcbppombhaa
