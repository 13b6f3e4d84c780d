/- The law MeterCounts of package evenhandedlaw10 answers true for every input: whatever is added to whichever counter, each by itself, the sums run round. No condition. -/
import Derived.Test.YthglpaijeijbhaaRows
import Derived.WalkKit
import Derived.ProofKit
import Derived.OpenShut
import Derived.ShutString
import Derived.ChangeOld
import Derived.Below
import Derived.Test.YthglpaijeijbhaaF1
namespace Go.Proofs.Ythglpaijeijbhaa.meterCounts
open Go.ChangeShapes Go.WideShapes Go.ChangeAt Go.RowKit
set_option linter.unusedVariables false

theorem own : ownKnob Try.prog.godebug = none := by kernel_rfl
theorem laidOut : laidOutB Try.prog = true := by kernel_rfl
theorem readable22 : Try.prog.readableRec 22 = true := by kernel_rfl
theorem lt22 : 22 < Try.prog.types.size := of_decide_eq_true (by kernel_rfl)
theorem cells27 : Try.prog.cellsOf 27 = 2 := by kernel_rfl
theorem cells2 : Try.prog.cellsOf 2 = 1 := by kernel_rfl

theorem walk (a : Option Addr) (n c0 : Nat) (w : World) (h : ElemsIn w 2 (prCells (k := .i64)) a n) : Calls Try.prog 3 #[.slice a n c0] w fun e w' => e = .returned (.bool true) ∧ Gr w w' := by
  by_cases h1 : 200 < n
  · exact counts_big a n c0 w h1
  · obtain ⟨q, hq⟩ := prsAt_of h
    exact counts_walk a n c0 q w (by omega) hq

/-! ### THE ROW's STEP -/
set_option maxRecDepth 100000 in
theorem lifted (os : Os) (started : os.Started) (H : Type) (enc : TypeId × Value → H) :
    ReturnsInHanded {} Try.checked os 3 .any (Rows.meterCountsSpec.pre6 enc Try.prog Try.f3 Rows.meterCountsRow.domain false) (Rows.meterCountsSpec.post enc Try.prog Try.f3 false true false false) := by
  refine returnsInHanded_of_change (C := Try.checked) own started (by kernel_rfl) Try.func3
    (ChangeSpec.witness6 (enc := enc) (C := Try.checked) false ⟨#[], #[.slice none 0 0], []⟩ 8 (by kernel_rfl) (by kernel_rfl) (by kernel_rfl) (by kernel_rfl)) ?_
  intro W base args ds gs before hval0 hW hcnd _
  have hval : ∀ (j : Nat) t v, Try.f3.params[j]? = some t → args[j]? = some v → Value.okWide Try.prog W .any base t v := hval0
  have hW' := hW
  have hlt := fun x hx => hW.lt x hx
  obtain ⟨p, q, hA0, hV, rfl, hfz, hnd⟩ := hW
  have hA : DataW.TrodAll enc Try.prog W 0 (fun _ => true) true Try.f3.params.toList args.toList ds p := hA0
  rw [Try.params3] at hA hval
  obtain ⟨v0, vs0, d0, ds0, p0, q0, hargs, rfl, rfl, h0, r0⟩ := trodAll_cons hA
  obtain ⟨rfl, rfl, rfl⟩ := trodAll_nil r0
  obtain rfl : args = #[v0] := by cases args; simp_all
  obtain ⟨rfl, rfl⟩ := trodVars_none hV
  obtain ⟨a, n, cap, rfl, hcase⟩ := open_elems (P := Try.prog) (t := 27) (k := 2) (prCells (k := .i64)) Try.underlying22 cells27 (by omega) (fun _ => rfl) (fun hl h => pr_of_trod Try.underlying27 Try.underlying2 cells27 cells2 hl h) (hval 0 22 v0 rfl rfl) h0
  clear hA0 hval0
  simp only [List.append_nil] at hW' hlt
  refine (walk a n cap W hcase).mono fun e W' ⟨he, hg⟩ => ?_
  subst he
  have ha : DataW.TrodAll enc Try.prog W' 0 (fun b => decide (b < W.heap.size)) true [22] [.slice a n cap] [d0] (p0 ++ []) := trodAll_cons_mk (hg.trod (fun _ _ f => f) laidOut readable22 lt22 h0 hlt) trodAll_mk0
  rw [List.append_nil] at ha
  exact ⟨_, rfl, _, _, _, [], p0, [], hW', trodAll_cons_mk (shut_bool Try.underlying4 _) trodAll_mk0, ha, rfl, hg.frame (fun _ _ f => f) _, fun h => by cases h⟩

theorem over : Rows.meterCountsRow.holds Try.pinned (OpenSpec.ofChange Rows.meterCountsSpec) :=
  OpenClaim.holds_of_wide 3 Try.f3 rfl rfl rfl rfl rfl rfl rfl ⟨rfl, rfl, rfl, rfl, rfl⟩ rfl rfl rfl rfl rfl (by kernel_rfl) Try.func3 (by kernel_rfl)
    (of_decide_eq_true (by kernel_rfl)) (by unfold Func.isWrapper; first | (rw [if_pos (by decide +kernel)]; kernel_rfl) | (rw [if_neg (by decide +kernel)]; exact ⟨rfl, rfl⟩))
    (fun os started H enc _ => lifted os started H enc)

/-- ████ THE STATEMENT ████ -/
theorem proved : Rows.MeterCountsSaid :=
  over
#print axioms proved
end Go.Proofs.Ythglpaijeijbhaa.meterCounts
