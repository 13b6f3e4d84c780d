/- PROVED: the law WholeKnown answers true: numbers by hand, at their ends; it has no input, no condition. -/
import Derived.Test.YtkmapegglgcfnaaRows
import Derived.WalkKit
import Derived.ProofKit
import Derived.OpenShut
import Derived.ShutString
import Derived.Test.YtkmapegglgcfnaaW5
namespace Go.Proofs.Ytkmapegglgcfnaa.wholeKnown
open Go.ChangeShapes Go.WideShapes Go.ChangeAt Go.RowKit
open Go.ChangeMaps (open_string shut_string)
set_option linter.unusedVariables false      -- a walk need not use every 'w<i>' (that an integer argument fits its kind)

theorem k_lcm_no : ¬ Fit (9223372036854775807 / gcdV 9223372036854775807 9223372036854775806 * 9223372036854775806) := by
  have e : gcdV 9223372036854775807 9223372036854775806 = 1 := by decide
  rw [e]; unfold Fit; omega

theorem own : ownKnob Try.prog.godebug = none := by kernel_rfl

/-! ### STEP 1: THE WALK: the Go text returns true. 'Grown w w'': the world has at most new blocks (Derived/RowKit3.lean). Part the cases AHEAD of 'go_enter' where a test parts the walk; take each callee by a contract of your own. -/
set_option maxRecDepth 100000 in
set_option maxHeartbeats 1000000 in
theorem walk  (w : World) :
    Calls Try.prog 5 #[] w fun e w' => e = .returned (.bool true) ∧ Grown w w' := by
  go_enter Try.func5, Try.ntmps5
  go_wp2_with fail
  refine (awake_true _).mono ?_
  rintro e w1 ⟨rfl, g1⟩
  go_wp2_with fail
  refine (add_no _ _ _ (by omega) (by omega) (by omega) (by omega) (by omega)).mono ?_
  rintro e w2 ⟨rfl, rfl⟩
  go_wp2_with fail
  refine (add_no _ _ _ (by omega) (by omega) (by omega) (by omega) (by omega)).mono ?_
  rintro e w3 ⟨rfl, rfl⟩
  go_wp2_with fail
  refine (add_ok (-9223372036854775808) 9223372036854775807 _ (by omega) (by omega) (by omega) (by omega) (by omega) (by omega)).mono ?_
  rintro e w4 ⟨rfl, rfl⟩
  go_wp2_with fail
  refine (mul_no _ _ _ (by omega) (by omega) (by omega) (by omega) (by unfold Fit; omega)).mono ?_
  rintro e w5 ⟨rfl, g5⟩
  go_wp2_with fail
  refine (mul_at _ _ (-9223372036854775808) _ (by omega) (by omega) (by omega) (by omega) (by decide) (by unfold Fit; omega)).mono ?_
  rintro e w6 ⟨rfl, g6⟩
  go_wp2_with fail
  refine (lcm_no _ _ _ (by omega) (by omega) (by omega) (by omega) k_lcm_no).mono ?_
  rintro e w7 ⟨rfl, g7⟩
  go_wp2_with fail
  refine (floor_over _).mono ?_
  rintro e w8 ⟨rfl, rfl⟩
  go_wp2_with fail
  refine (ceil_at _ _ (-3) _ (by omega) (by omega) (by omega) (by omega) (by omega) (by omega) (by decide)).mono ?_
  rintro e w9 ⟨rfl, g9⟩
  go_wp2_with fail
  refine (floor_at _ _ (-9223372036854775808) _ (by omega) (by omega) (by omega) (by omega) (by omega) (by omega) (by decide)).mono ?_
  rintro e w10 ⟨rfl, g10⟩
  go_wp2_with fail
  refine (gcd_at _ _ 0 _ (by omega) (by omega) (by omega) (by omega) (by decide)).mono ?_
  rintro e w11 ⟨rfl, g11⟩
  go_wp2_with fail
  refine (gcd_at _ _ 0 _ (by omega) (by omega) (by omega) (by omega) (by decide)).mono ?_
  rintro e w12 ⟨rfl, g12⟩
  go_wp2_with fail
  refine (gcd_at _ _ 2 _ (by omega) (by omega) (by omega) (by omega) (by decide)).mono ?_
  rintro e w13 ⟨rfl, g13⟩
  go_wp2_with fail
  refine (gcd_at _ _ 2 _ (by omega) (by omega) (by omega) (by omega) (by decide)).mono ?_
  rintro e w14 ⟨rfl, g14⟩
  go_wp2_with fail
  refine (cross_at _ _ _ _ 1 _ (by omega) (by omega) (by omega) (by omega) (by omega) (by omega) (by omega) (by omega) (cmpI_gt (by decide))).mono ?_
  rintro e w15 ⟨rfl, g15⟩
  go_wp2_with fail
  refine (cross_at _ _ _ _ 0 _ (by omega) (by omega) (by omega) (by omega) (by omega) (by omega) (by omega) (by omega) (cmpI_eq (by decide))).mono ?_
  rintro e w16 ⟨rfl, g16⟩
  go_wp2_with fail
  refine (cross_at _ _ _ _ 1 _ (by omega) (by omega) (by omega) (by omega) (by omega) (by omega) (by omega) (by omega) (cmpI_gt (by decide))).mono ?_
  rintro e w17 ⟨rfl, g17⟩
  go_wp2
  go_ret
  exact ⟨rfl, grown_trans g1 (grown_trans g5 (grown_trans g6 (grown_trans g7 (grown_trans g9 (grown_trans g10 (grown_trans g11 (grown_trans g12 (grown_trans g13 (grown_trans g14 (grown_trans g15 (grown_trans g16 g17)))))))))))⟩

/-! ### THE ROW's STEP: WRITTEN OUT: LEAVE IT -/
set_option maxRecDepth 100000 in
theorem lifted (os : Os) (started : os.Started) (H : Type) (enc : TypeId × Value → H) :
    ReturnsInHanded {} Try.checked os 5 .any (Rows.wholeKnownSpec.pre6 enc Try.prog Try.f5 Rows.wholeKnownRow.domain false) (Rows.wholeKnownSpec.post enc Try.prog Try.f5 false true false false) := by
  refine returnsInHanded_of_change (C := Try.checked) own started (by kernel_rfl) Try.func5
    (ChangeSpec.witness6 (enc := enc) (C := Try.checked) false ⟨#[], #[], []⟩ 8 (by kernel_rfl) (by kernel_rfl) (by kernel_rfl) (by kernel_rfl)) ?_
  intro W base args ds gs before hval0 hW hcnd _
  have hval : ∀ (j : Nat) t v, Try.f5.params[j]? = some t → args[j]? = some v → Value.okWide Try.prog W .any base t v := hval0
  have hW' := hW
  obtain ⟨p, q, hA0, hV, rfl, hfz, hnd⟩ := hW
  have hA : DataW.TrodAll enc Try.prog W 0 (fun _ => true) true Try.f5.params.toList args.toList ds p := hA0
  rw [Try.params5] at hA hval
  obtain ⟨rfl, rfl, rfl⟩ := trodAll_none hA
  obtain ⟨rfl, rfl⟩ := trodVars_none hV
  clear hA0 hval0
  simp only [List.append_nil] at hW'
  refine (walk  W).mono fun e W' ⟨he, hg⟩ => ?_
  subst he
  exact ⟨_, rfl, post_of_same (pa := []) (pv := []) hW' (fun _ _ _ => (trodAll_cons_mk (shut_bool Try.underlying4 _) trodAll_mk0)) (fun sp _ => rfl) (fun _ _ => rfl) rfl
    (hg.frame _) hg.2.1 (ok_one (by kernel_rfl) rfl (okWide_bool_mk Try.underlying4 _))⟩

theorem over : Rows.wholeKnownRow.holds Try.pinned (OpenSpec.ofChange Rows.wholeKnownSpec) :=
  OpenClaim.holds_of_wide 5 Try.f5 rfl rfl rfl rfl rfl rfl rfl ⟨rfl, rfl, rfl, rfl, rfl⟩ rfl rfl rfl rfl rfl (by kernel_rfl) Try.func5 (by kernel_rfl)
    (of_decide_eq_true (by kernel_rfl)) (by unfold Func.isWrapper; first | (rw [if_pos (by decide +kernel)]; kernel_rfl) | (rw [if_neg (by decide +kernel)]; exact ⟨rfl, rfl⟩))
    (fun os started H enc _ => lifted os started H enc)

/-- ████ THE STATEMENT ████ -/
theorem proved : Rows.WholeKnownSaid :=
  over
#print axioms proved
end Go.Proofs.Ytkmapegglgcfnaa.wholeKnown
