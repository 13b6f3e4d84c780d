/- The ranks of one job's quanta, one behind another. -/
import Derived.Test.YtpaiaoaffoeleaaB4
namespace Go.Proofs.Ytpaiaoaffoeleaa
open Go.RowKit Go.Sort
set_option linter.unusedVariables false

theorem cl_mono {a b c : Int} (hc : 0 < c) (h : a ≤ b) : cl a c ≤ cl b c := by
  obtain ⟨s, h0, h1, h2⟩ := cl_spec b hc
  exact cl_le hc (by omega)

theorem gp_mono {e p i : Int} (h : Task e p) (hl : e < p) : gp e p i ≤ gp e p (i + 1) := by
  rw [gp_eq h, gp_eq h]
  have := dl_next (i := i) h
  exact cl_mono (by omega) (Int.mul_le_mul_of_nonneg_right (by omega) (by have := h.e1; have := h.ep; omega))

/-- The rank of quantum i of a job that begins at r. -/
def rowR (hv : Bool) (e p r i : Int) : Rk := ⟨r + dl e p i, bt e p i, if hv then gp e p i + r else 0, 3⟩

/-- Which kind of job: with group deadlines or without. -/
def Kind (hv : Bool) (e p : Int) : Prop := if hv then p ≤ 2 * e ∧ e < p else 2 * e < p ∨ e = p

theorem kind_ex {e p : Int} (h : Task e p) : ∃ hv, Kind hv e p := by
  by_cases a : p ≤ 2 * e ∧ e < p
  · exact ⟨true, by simp only [Kind, if_true]; exact a⟩
  · exact ⟨false, by simp only [Kind]; have := h.ep; simp; omega⟩

theorem of_row {hv : Bool} {e p r i : Int} (w : World) (h : Quan e p i) (hk : Kind hv e p) (h0 : 0 ≤ r) (h1 : r ≤ 65535) :
    Calls Try.prog 9 #[.int .i64 e, .int .i64 p, .int .i64 i, .int .i64 r, .int .i64 3] w fun q w' => q = .returned (V (rowR hv e p r i)) ∧ Gr w w' := by
  obtain ⟨d0, d1⟩ := dl_bd h
  have hp := h.pm
  cases hv
  · simp only [Kind] at hk
    exact of_flat _ _ _ _ _ _ _ _ w h (by simpa using hk) rfl rfl (IntWalk.i64_in _ (by omega))
  · simp only [Kind, if_true] at hk
    obtain ⟨g0, g1⟩ := gp_bd h hk.2
    exact of_heavy _ _ _ _ _ _ _ _ _ _ w h hk.1 hk.2 rfl rfl rfl (IntWalk.i64_in _ (by omega)) (IntWalk.i64_in _ (by omega))

theorem row_step {hv : Bool} {e p r i : Int} (h : Task e p) (hk : Kind hv e p) : lessB (rowR hv e p r i) (rowR hv e p r (i + 1)) = true ∧ lessB (rowR hv e p r (i + 1)) (rowR hv e p r i) = false ∧ (rowR hv e p r i).d < (rowR hv e p r (i + 1)).d ∧ (rowR hv e p r i).g ≤ (rowR hv e p r (i + 1)).g := by
  have hd := dl_next (i := i) h
  refine ⟨?_, ?_, ?_, ?_⟩
  · unfold lessB rowR
    simp only
    rw [if_pos (by omega)]
    simp; omega
  · unfold lessB rowR
    simp only
    rw [if_pos (by omega)]
    simp; omega
  · show r + _ < r + _; omega
  · cases hv
    · simp [rowR]
    · simp only [Kind, if_true] at hk
      have := gp_mono (i := i) h hk.2
      simp only [rowR, if_true]; omega

/-- At the loop's head: i, and the rank of the quantum ahead of it in the box B. -/
def RowsRel (hv : Bool) (e p r : Int) (w : World) (B : Nat) (s : Value) (W : World) : Prop :=
  ∃ i : Int, s = .int .i64 (i + 1) ∧ 1 ≤ i ∧ i ≤ e ∧ Gr w W ∧ Box W B (rowR hv e p r i)

theorem Box.set {W : World} {B : Nat} {x y : Rk} (h : Box W B x) : Box ((((W.setCell ⟨B, 0, none⟩ (.int .i64 y.d)).setCell ⟨B, 1, none⟩ (.int .i64 y.b)).setCell ⟨B, 2, none⟩ (.int .i64 y.g)).setCell ⟨B, 3, none⟩ (.int .i64 y.i)) B y := by
  have c0 := h.c0; have c1 := h.c1; have c2 := h.c2; have c3 := h.c3; have f0 := h.f0
  refine ⟨?_, ?_, ?_, ?_, ?_⟩ <;> simp [go_sem, *]

end Go.Proofs.Ytpaiaoaffoeleaa
