/- The law PickFew of package evenhandedlaw13 answers true for every input: with cores enough all that can are chosen; with fewer those that go ahead. No condition. -/
import Derived.Test.YtkapejgokcpbiaaRows
import Derived.WalkKit
import Derived.ProofKit
import Derived.OpenShut
import Derived.Below
import Derived.Test.YtkapejgokcpbiaaU7
import Derived.Test.YtkapejgokcpbiaaX1
namespace Go.Proofs.Ytkapejgokcpbiaa.pickFew
open Go.ChangeShapes Go.WideShapes Go.ChangeAt Go.RowKit Go.Joins Go.Deep
set_option linter.unusedVariables false

theorem own : ownKnob Try.prog.godebug = none := by kernel_rfl
theorem laidOut : laidOutB Try.prog = true := by kernel_rfl
theorem readable22 : Try.prog.readableRec 22 = true := by kernel_rfl
theorem lt22 : 22 < Try.prog.types.size := of_decide_eq_true (by kernel_rfl)

set_option maxRecDepth 100000 in
theorem lifted (os : Os) (started : os.Started) (H : Type) (enc : TypeId × Value → H) :
    ReturnsInHanded {} Try.checked os 4 .any (Rows.pickFewSpec.pre6 enc Try.prog Try.f4 Rows.pickFewRow.domain false) (Rows.pickFewSpec.post enc Try.prog Try.f4 false true false false) := by
  refine returnsInHanded_of_change (C := Try.checked) own started (by kernel_rfl) Try.func4
    (ChangeSpec.witness6 (enc := enc) (C := Try.checked) false ⟨#[], #[.slice none 0 0, .int .u8 0, .agg #[.int .u8 0, .int .u8 0]], []⟩ 8 (by kernel_rfl) (by kernel_rfl) (by kernel_rfl) (by kernel_rfl)) ?_
  intro W base args ds gs before hval0 hW hcnd _
  have hval : ∀ (j : Nat) t v, Try.f4.params[j]? = some t → args[j]? = some v → Value.okWide Try.prog W .any base t v := hval0
  have hW' := hW
  have hlt := fun x hx => hW.lt x hx
  obtain ⟨p, q, hA0, hV, rfl, hfz, hnd⟩ := hW
  have hA : DataW.TrodAll enc Try.prog W 0 (fun _ => true) true Try.f4.params.toList args.toList ds p := hA0
  rw [Try.params4] at hA hval
  obtain ⟨v0, vs0, d0, ds0, p0, q0, hargs, rfl, rfl, h0, r0⟩ := trodAll_cons hA
  obtain ⟨v1, vs1, d1, ds1, p1, q1, rfl, rfl, rfl, h1, r1⟩ := trodAll_cons r0
  obtain ⟨v2, vs2, d2, ds2, p2, q2, rfl, rfl, rfl, h2, r2⟩ := trodAll_cons r1
  obtain ⟨rfl, rfl, rfl⟩ := trodAll_nil r2
  obtain rfl : args = #[v0, v1, v2] := by cases args; simp_all
  obtain ⟨rfl, rfl⟩ := trodVars_none hV
  obtain ⟨a, n, cap, rfl, hcase⟩ := open_elems (P := Try.prog) (t := 26) (k := 11) tiCells Try.underlying22 cells26 (by omega) (fun _ => rfl) (fun hl h => ti_of_trod hl h) (hval 0 22 v0 rfl rfl) h0
  obtain ⟨l, hts, hok⟩ := tsIn_of (cap := cap) hcase
  obtain ⟨n1, rfl, rfl, rfl, w1⟩ := open_int Try.underlying5 (hval 1 5 v1 rfl rfl) h1
  obtain ⟨x2, y2, rfl, rfl, rfl, wx2, wy2⟩ := open_two Try.underlying43 Try.underlying5 cells43 cells5 (hval 2 43 v2 rfl rfl) h2
  clear hA0 hval0
  simp only [List.append_nil] at hW' hlt
  obtain ⟨k1, rfl, hk1⟩ := u8_nat w1
  obtain ⟨kx2, rfl, hkx2⟩ := u8_nat wx2
  obtain ⟨ky2, rfl, hky2⟩ := u8_nat wy2
  refine (few_walk hts hok k1 kx2 ky2 hk1 hkx2 hky2).mono fun e W' ⟨he, hg⟩ => ?_
  subst he
  have hb : Below W.heap.size W W' := hg.below (Nat.le_refl _) (fun _ _ z => z)
  have ha : DataW.TrodAll enc Try.prog W' 0 (fun b => decide (b < W.heap.size)) true [22, 5, 43] [.slice a n cap, .int .u8 k1, .agg #[.int .u8 kx2, .int .u8 ky2]] [d0, .lit (.int .u8 k1), .agg [.lit (.int .u8 kx2), .lit (.int .u8 ky2)]] (p0 ++ ([] ++ ([] ++ []))) := trodAll_cons_mk (hb.trod laidOut readable22 lt22 h0 hlt) (trodAll_cons_mk (shut_int Try.underlying5 w1) (trodAll_cons_mk (shut_two Try.underlying43 Try.underlying5 cells43 cells5 wx2 wy2) trodAll_mk0))
  simp only [List.append_nil] at ha
  exact ⟨_, rfl, _, _, _, [], p0, [], hW', trodAll_cons_mk (shut_bool Try.underlying4 _) trodAll_mk0, ha, rfl, hb.frame _, fun h => by cases h⟩

theorem over : Rows.pickFewRow.holds Try.pinned (OpenSpec.ofChange Rows.pickFewSpec) :=
  OpenClaim.holds_of_wide 4 Try.f4 rfl rfl rfl rfl rfl rfl rfl ⟨rfl, rfl, rfl, rfl, rfl⟩ rfl rfl rfl rfl rfl (by kernel_rfl) Try.func4 (by kernel_rfl)
    (of_decide_eq_true (by kernel_rfl)) (by unfold Func.isWrapper; first | (rw [if_pos (by decide +kernel)]; kernel_rfl) | (rw [if_neg (by decide +kernel)]; exact ⟨rfl, rfl⟩))
    (fun os started H enc _ => lifted os started H enc)

/-- ████ THE STATEMENT ████ -/
theorem proved : Rows.PickFewSaid :=
  over
#print axioms proved
end Go.Proofs.Ytkapejgokcpbiaa.pickFew
