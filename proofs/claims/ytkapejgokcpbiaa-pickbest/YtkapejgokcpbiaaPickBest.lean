/- The law PickBest of package evenhandedlaw13 answers true for every input: any tasks, any clock, any cores: who can, who is how urgent, who has the slot. No condition. -/
import Derived.Test.YtkapejgokcpbiaaRows
import Derived.WalkKit
import Derived.ProofKit
import Derived.OpenShut
import Derived.Below
import Derived.Test.YtkapejgokcpbiaaU6
import Derived.Test.YtkapejgokcpbiaaX1
namespace Go.Proofs.Ytkapejgokcpbiaa.pickBest
open Go.ChangeShapes Go.WideShapes Go.ChangeAt Go.RowKit Go.Joins Go.Deep
set_option linter.unusedVariables false

theorem own : ownKnob Try.prog.godebug = none := by kernel_rfl
theorem laidOut : laidOutB Try.prog = true := by kernel_rfl
theorem readable22 : Try.prog.readableRec 22 = true := by kernel_rfl
theorem lt22 : 22 < Try.prog.types.size := of_decide_eq_true (by kernel_rfl)

set_option maxRecDepth 100000 in
theorem lifted (os : Os) (started : os.Started) (H : Type) (enc : TypeId × Value → H) :
    ReturnsInHanded {} Try.checked os 3 .any (Rows.pickBestSpec.pre6 enc Try.prog Try.f3 Rows.pickBestRow.domain false) (Rows.pickBestSpec.post enc Try.prog Try.f3 false true false false) := by
  refine returnsInHanded_of_change (C := Try.checked) own started (by kernel_rfl) Try.func3
    (ChangeSpec.witness6 (enc := enc) (C := Try.checked) false ⟨#[], #[.slice none 0 0, .agg #[.int .i64 0, .int .i64 0], .bool false], []⟩ 8 (by kernel_rfl) (by kernel_rfl) (by kernel_rfl) (by kernel_rfl)) ?_
  intro W base args ds gs before hval0 hW hcnd _
  have hval : ∀ (j : Nat) t v, Try.f3.params[j]? = some t → args[j]? = some v → Value.okWide Try.prog W .any base t v := hval0
  have hW' := hW
  have hlt := fun x hx => hW.lt x hx
  obtain ⟨p, q, hA0, hV, rfl, hfz, hnd⟩ := hW
  have hA : DataW.TrodAll enc Try.prog W 0 (fun _ => true) true Try.f3.params.toList args.toList ds p := hA0
  rw [Try.params3] at hA hval
  obtain ⟨v0, vs0, d0, ds0, p0, q0, hargs, rfl, rfl, h0, r0⟩ := trodAll_cons hA
  obtain ⟨v1, vs1, d1, ds1, p1, q1, rfl, rfl, rfl, h1, r1⟩ := trodAll_cons r0
  obtain ⟨v2, vs2, d2, ds2, p2, q2, rfl, rfl, rfl, h2, r2⟩ := trodAll_cons r1
  obtain ⟨rfl, rfl, rfl⟩ := trodAll_nil r2
  obtain rfl : args = #[v0, v1, v2] := by cases args; simp_all
  obtain ⟨rfl, rfl⟩ := trodVars_none hV
  obtain ⟨a, n, cap, rfl, hcase⟩ := open_elems (P := Try.prog) (t := 26) (k := 11) tiCells Try.underlying22 cells26 (by omega) (fun _ => rfl) (fun hl h => ti_of_trod hl h) (hval 0 22 v0 rfl rfl) h0
  obtain ⟨l, hts, hok⟩ := tsIn_of (cap := cap) hcase
  obtain ⟨n1, m1, rfl, rfl, rfl, wx1, wy1⟩ := open_two Try.underlying23 Try.underlying3 cells23 cells3 (hval 1 23 v1 rfl rfl) h1
  obtain ⟨b2, rfl, rfl, rfl⟩ := open_bool Try.underlying4 (hval 2 4 v2 rfl rfl) h2
  clear hA0 hval0
  simp only [List.append_nil] at hW' hlt
  refine (best_walk hts hok n1 m1 b2).mono fun e W' ⟨he, hg⟩ => ?_
  subst he
  have hb : Below W.heap.size W W' := hg.below (Nat.le_refl _) (fun _ _ z => z)
  have ha : DataW.TrodAll enc Try.prog W' 0 (fun b => decide (b < W.heap.size)) true [22, 23, 4] [.slice a n cap, .agg #[.int .i64 n1, .int .i64 m1], .bool b2] [d0, .agg [.lit (.int .i64 n1), .lit (.int .i64 m1)], .lit (.bool b2)] (p0 ++ ([] ++ ([] ++ []))) := trodAll_cons_mk (hb.trod laidOut readable22 lt22 h0 hlt) (trodAll_cons_mk (shut_two Try.underlying23 Try.underlying3 cells23 cells3 wx1 wy1) (trodAll_cons_mk (shut_bool Try.underlying4 b2) trodAll_mk0))
  simp only [List.append_nil] at ha
  exact ⟨_, rfl, _, _, _, [], p0, [], hW', trodAll_cons_mk (shut_bool Try.underlying4 _) trodAll_mk0, ha, rfl, hb.frame _, fun h => by cases h⟩

theorem over : Rows.pickBestRow.holds Try.pinned (OpenSpec.ofChange Rows.pickBestSpec) :=
  OpenClaim.holds_of_wide 3 Try.f3 rfl rfl rfl rfl rfl rfl rfl ⟨rfl, rfl, rfl, rfl, rfl⟩ rfl rfl rfl rfl rfl (by kernel_rfl) Try.func3 (by kernel_rfl)
    (of_decide_eq_true (by kernel_rfl)) (by unfold Func.isWrapper; first | (rw [if_pos (by decide +kernel)]; kernel_rfl) | (rw [if_neg (by decide +kernel)]; exact ⟨rfl, rfl⟩))
    (fun os started H enc _ => lifted os started H enc)

/-- ████ THE STATEMENT ████ -/
theorem proved : Rows.PickBestSaid :=
  over
#print axioms proved
end Go.Proofs.Ytkapejgokcpbiaa.pickBest
