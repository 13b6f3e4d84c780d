/- WindowCover: how often each slot is covered, window by window, slot by slot: the row of the memory and what is known of it. -/
import Derived.Test.YtcigmcbppombhaaK3
import Derived.Deep.LoopGhost
namespace Go.Proofs.Ytcigmcbppombhaa
set_option linter.unusedVariables false
open Go.RowKit

/-- The row of counts lies in block w.heap.size; nothing that was there has turned. -/
structure CW (w wr : World) (n : Nat) (f : Nat → Int) : Prop where
  gr : Grown w wr
  row : wr.rowIs w.heap.size 3 n (fun j => .int .i64 (f j))

theorem CW.start (w : World) (n : Nat) : CW w (w.alloc (.cells (madeCells #[.int .i64 0] n) 3)) n (fun _ => 0) :=
  ⟨(Grown.refl w).alloc _ _, World.rowIs_made w _ n 3⟩

theorem CW.set {w wr : World} {n : Nat} {f : Nat → Int} (h : CW w wr n f) (u : Nat) (v : Int) :
    CW w (wr.setCell ⟨w.heap.size, u, none⟩ (.int .i64 v)) n (fun j => if j = u then v else f j) :=
  ⟨h.gr.setCell (Nat.le_refl _) _, (h.row.set u _).congr (fun i _ => by by_cases e : i = u <;> simp [e])⟩

/-- Windows 1 to m are counted. -/
def Past (e p m : Int) (n : Nat) (f : Nat → Int) : Prop :=
  ∀ u : Nat, u < n → ((u : Int) < dl e p m - 1 → 1 ≤ f u ∧ f u ≤ 2) ∧ ((u : Int) = dl e p m - 1 → f u = 1) ∧ (dl e p m ≤ u → f u = 0)

/-- Of the next window, behind an end at D, the slots ahead of t are counted. -/
def Amid (D t : Int) (n : Nat) (f : Nat → Int) : Prop :=
  D - 1 ≤ t ∧ ∀ u : Nat, u < n → ((u : Int) < t → 1 ≤ f u ∧ f u ≤ 2) ∧ (D ≤ u → (u : Int) < t → f u = 1) ∧ ((u : Int) = D - 1 → t ≤ u → f u = 1) ∧ (t ≤ u → D ≤ u → f u = 0)

theorem past_zero (e p : Int) (n : Nat) (h : 1 ≤ e) : Past e p 0 n (fun _ => 0) := by
  have hz : dl e p 0 = 0 := by unfold dl; exact cl_unique (s := 0) (by omega) (by omega) (by omega) (by omega)
  intro u _
  rw [hz]
  exact ⟨by omega, by omega, fun _ => rfl⟩

theorem amid_start {e p k : Int} {n : Nat} {f : Nat → Int} (h1 : 1 ≤ e) (h : Past e p (k - 1) n f) : Amid (dl e p (k - 1)) (rel e p k) n f := by
  have hf := follow (p := p) (i := k - 1) h1
  rw [show k - 1 + 1 = k by omega] at hf
  have hb := bt_01 (e := e) (p := p) (i := k - 1)
  refine ⟨by omega, fun u hu => ?_⟩
  obtain ⟨a, b, c⟩ := h u hu
  refine ⟨fun x => ?_, fun x y => by omega, fun x y => b x, fun x y => c y⟩
  rcases Int.lt_or_le (u : Int) (dl e p (k - 1) - 1) with z | z
  · exact a z
  · have := b (by omega); omega

theorem amid_at {D : Int} {t n : Nat} {f : Nat → Int} (h : Amid D t n f) (ht : t < n) : 0 ≤ f t ∧ f t ≤ 1 := by
  obtain ⟨h0, h⟩ := h
  obtain ⟨a, b, c, d⟩ := h t ht
  rcases Int.lt_or_le (t : Int) D with z | z
  · have := c (by omega) (by omega); omega
  · have := d (by omega) z; omega

theorem amid_step {D : Int} {t n : Nat} {f : Nat → Int} (h : Amid D t n f) (ht : t < n) : Amid D ((t + 1 : Nat) : Int) n (fun j => if j = t then f t + 1 else f j) := by
  have h2 := amid_at h ht
  obtain ⟨h0, h⟩ := h
  refine ⟨by omega, fun u hu => ?_⟩
  obtain ⟨a, b, c, d⟩ := h u hu
  by_cases e : u = t
  · subst e
    simp only [if_true]
    exact ⟨fun _ => by omega, fun x _ => by have := d (by omega) x; omega, fun _ _ => by omega, fun _ _ => by omega⟩
  · simp only [if_neg e]
    exact ⟨fun _ => a (by omega), fun x _ => b x (by omega), fun x _ => c x (by omega), fun _ x => d (by omega) x⟩

theorem amid_done {e p k : Int} {n : Nat} {f : Nat → Int} (ht : Task e p) (h : Amid (dl e p (k - 1)) (dl e p k) n f) : Past e p k n f := by
  have hn := dl_next (i := k - 1) ht
  rw [show k - 1 + 1 = k by omega] at hn
  obtain ⟨h0, h⟩ := h
  intro u hu
  obtain ⟨a, b, c, d⟩ := h u hu
  exact ⟨fun x => a (by omega), fun x => b (by omega) (by omega), fun x => d x (by omega)⟩

theorem past_all {e : Int} {n : Nat} {f : Nat → Int} (h1 : 1 ≤ e) (h : Past e n e n f) {u : Nat} (hu : u < n) : 1 ≤ f u ∧ f u ≤ 2 := by
  obtain ⟨a, b, c⟩ := h u hu
  rw [dl_last h1] at a b
  rcases Int.lt_or_le (u : Int) ((n : Int) - 1) with z | z
  · exact a z
  · have := b (by omega); omega

def Outer (e : Int) (n : Nat) (w : World) (g : Nat) (i : Value) (wr : World) : Prop :=
  ∃ (k : Int) (f : Nat → Int), i = .int .i64 k ∧ 1 ≤ k ∧ k ≤ e + 1 ∧ g = (e + 1 - k).toNat ∧ CW w wr n f ∧ Past e n (k - 1) n f
def Inner (e : Int) (n : Nat) (k : Int) (w : World) (g : Nat) (t : Value) (wr : World) : Prop :=
  ∃ (u : Nat) (f : Nat → Int), t = .int .i64 (u : Int) ∧ (u : Int) ≤ dl e n k ∧ g = n - u ∧ CW w wr n f ∧ Amid (dl e n (k - 1)) u n f
def Third (n : Nat) (g : Nat) (t : Value) : Prop := ∃ u : Nat, t = .int .i64 (u : Int) ∧ u ≤ n ∧ g = n - u

theorem info3 : (Try.prog.info? 3).map (fun i => (i.zero, i.size, i.bytes)) = some (some (.int .i64 0), 1, 8) := by kernel_rfl

end Go.Proofs.Ytcigmcbppombhaa
