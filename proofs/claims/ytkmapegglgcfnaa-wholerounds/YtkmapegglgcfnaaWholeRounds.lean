/- PROVED: for any two numbers of 64 bits, rounding down and up with both signs turned, or one, goes as the law WholeRounds says; no condition. -/
import Derived.Test.YtkmapegglgcfnaaRows
import Derived.WalkKit
import Derived.ProofKit
import Derived.OpenShut
import Derived.ShutString
import Derived.Test.YtkmapegglgcfnaaW5
import Derived.Test.YtkmapegglgcfnaaRounds
namespace Go.Proofs.Ytkmapegglgcfnaa.wholeRounds
open Go.ChangeShapes Go.WideShapes Go.ChangeAt Go.RowKit
open Go.ChangeMaps (open_string shut_string)
set_option linter.unusedVariables false      -- a walk need not use every 'w<i>' (that an integer argument fits its kind)

theorem own : ownKnob Try.prog.godebug = none := by kernel_rfl

/-! ### STEP 1: THE WALK: the Go text returns true. 'Grown w w'': the world has at most new blocks (Derived/RowKit3.lean). Part the cases AHEAD of 'go_enter' where a test parts the walk; take each callee by a contract of your own. -/
set_option maxRecDepth 100000 in
set_option maxHeartbeats 1000000 in
theorem walk (a0 : Int) (a1 : Int) (w0 : (Lit.int .i64 a0).wf = true) (w1 : (Lit.int .i64 a1).wf = true) (w : World) :
    Calls Try.prog 9 #[.int .i64 a0, .int .i64 a1] w fun e w' => e = .returned (.bool true) ∧ Grown w w' := by
  obtain ⟨h0, h1⟩ := bounds_i64 w0
  obtain ⟨h2, h3⟩ := bounds_i64 w1
  clear w0 w1
  by_cases c0 : a1 = 0
  · have d0 : (a1 == 0) = true := by simp [c0]
    clear c0
    go_enter Try.func9, Try.ntmps9
    go_wp2_with fail
    refine (awake_true _).mono ?_
    rintro e w1 ⟨rfl, g1⟩
    go_wp2
    go_ret
    exact ⟨rfl, g1⟩
  have d0 : (a1 == 0) = false := by simp [c0]
  by_cases c1 : a0 = -9223372036854775808
  · have d1 : (a0 == -9223372036854775808) = true := by simp [c1]
    clear c0 c1
    go_enter Try.func9, Try.ntmps9
    go_wp2_with fail
    refine (awake_true _).mono ?_
    rintro e w1 ⟨rfl, g1⟩
    go_wp2
    go_ret
    exact ⟨rfl, g1⟩
  have d1 : (a0 == -9223372036854775808) = false := by simp [c1]
  by_cases c2 : a1 = -9223372036854775808
  · have d2 : (a1 == -9223372036854775808) = true := by simp [c2]
    clear c0 c1 c2
    go_enter Try.func9, Try.ntmps9
    go_wp2_with fail
    refine (awake_true _).mono ?_
    rintro e w1 ⟨rfl, g1⟩
    go_wp2
    go_ret
    exact ⟨rfl, g1⟩
  have d2 : (a1 == -9223372036854775808) = false := by simp [c2]
  have b0 : -9223372036854775807 ≤ a0 := by omega
  have b1 : -9223372036854775807 ≤ a1 := by omega
  have bf := flo_bd1 b0 h1 c0
  have bc := cei_bd1 b0 h1 c0
  have E0 := Lib.hid c0
  have E1 := Lib.hid c1
  have F1 := Lib.hid (flo_neg_neg (a := a0) c0)
  have F2 := Lib.hid (cei_neg (a := a0) c0)
  have F3 := Lib.hid (flo_neg (a := a0) c0)
  clear c0 c1 c2
  go_enter Try.func9, Try.ntmps9
  go_wp2_with fail
  refine (awake_true _).mono ?_
  rintro e w1 ⟨rfl, g1⟩
  go_wp2_with fail
  refine (floor_at _ _ (flo a0 a1) _ h0 h1 h2 h3 E0.out (.inl E1.out) rfl).mono ?_
  rintro e w2 ⟨rfl, g2⟩
  go_wp2_with fail
  refine (ceil_at _ _ (cei a0 a1) _ h0 h1 h2 h3 E0.out (.inl E1.out) rfl).mono ?_
  rintro e w3 ⟨rfl, g3⟩
  go_wp2_with fail
  refine (floor_at (-a0) (-a1) (flo a0 a1) _ (by omega) (by omega) (by omega) (by omega) (by have := E0.out; omega) (by omega) F1.out).mono ?_
  rintro e w4 ⟨rfl, g4⟩
  go_wp2_with fail
  refine (ceil_at (-a0) a1 (-flo a0 a1) _ (by omega) (by omega) h2 h3 E0.out (by omega) F2.out).mono ?_
  rintro e w5 ⟨rfl, g5⟩
  go_wp2_with fail
  refine (floor_at a0 (-a1) (-cei a0 a1) _ h0 h1 (by omega) (by omega) (by have := E0.out; omega) (.inl E1.out) F3.out).mono ?_
  rintro e w6 ⟨rfl, g6⟩
  go_wp2
  go_ret
  exact ⟨rfl, grown_trans (grown_trans (grown_trans (grown_trans (grown_trans g1 g2) g3) g4) g5) g6⟩

/-! ### THE ROW's STEP: WRITTEN OUT: LEAVE IT -/
set_option maxRecDepth 100000 in
theorem lifted (os : Os) (started : os.Started) (H : Type) (enc : TypeId × Value → H) :
    ReturnsInHanded {} Try.checked os 9 .any (Rows.wholeRoundsSpec.pre6 enc Try.prog Try.f9 Rows.wholeRoundsRow.domain false) (Rows.wholeRoundsSpec.post enc Try.prog Try.f9 false true false false) := by
  refine returnsInHanded_of_change (C := Try.checked) own started (by kernel_rfl) Try.func9
    (ChangeSpec.witness6 (enc := enc) (C := Try.checked) false ⟨#[], #[.int .i64 0, .int .i64 0], []⟩ 8 (by kernel_rfl) (by kernel_rfl) (by kernel_rfl) (by kernel_rfl)) ?_
  intro W base args ds gs before hval0 hW hcnd _
  have hval : ∀ (j : Nat) t v, Try.f9.params[j]? = some t → args[j]? = some v → Value.okWide Try.prog W .any base t v := hval0
  have hW' := hW
  obtain ⟨p, q, hA0, hV, rfl, hfz, hnd⟩ := hW
  have hA : DataW.TrodAll enc Try.prog W 0 (fun _ => true) true Try.f9.params.toList args.toList ds p := hA0
  rw [Try.params9] at hA hval
  obtain ⟨v0, vs0, d0, ds0, p0, q0, hargs, rfl, rfl, h0, r0⟩ := trodAll_cons hA
  obtain ⟨v1, vs1, d1, ds1, p1, q1, rfl, rfl, rfl, h1, r1⟩ := trodAll_cons r0
  obtain ⟨rfl, rfl, rfl⟩ := trodAll_nil r1
  obtain rfl : args = #[v0, v1] := by cases args; simp_all
  obtain ⟨rfl, rfl⟩ := trodVars_none hV
  obtain ⟨a0, rfl, rfl, rfl, w0⟩ := open_int Try.underlying2 (hval 0 2 v0 rfl rfl) h0
  obtain ⟨a1, rfl, rfl, rfl, w1⟩ := open_int Try.underlying2 (hval 1 2 v1 rfl rfl) h1
  clear hA0 hval0
  simp only [List.append_nil] at hW'
  refine (walk a0 a1 w0 w1 W).mono fun e W' ⟨he, hg⟩ => ?_
  subst he
  exact ⟨_, rfl, post_of_same (pa := []) (pv := []) hW' (fun _ _ _ => (trodAll_cons_mk (shut_bool Try.underlying4 _) trodAll_mk0)) (fun sp _ => (trodAll_cons_mk (shut_int Try.underlying2 w0) (trodAll_cons_mk (shut_int Try.underlying2 w1) trodAll_mk0))) (fun _ _ => rfl) rfl
    (hg.frame _) hg.2.1 (ok_one (by kernel_rfl) rfl (okWide_bool_mk Try.underlying4 _))⟩

theorem over : Rows.wholeRoundsRow.holds Try.pinned (OpenSpec.ofChange Rows.wholeRoundsSpec) :=
  OpenClaim.holds_of_wide 9 Try.f9 rfl rfl rfl rfl rfl rfl rfl ⟨rfl, rfl, rfl, rfl, rfl⟩ rfl rfl rfl rfl rfl (by kernel_rfl) Try.func9 (by kernel_rfl)
    (of_decide_eq_true (by kernel_rfl)) (by unfold Func.isWrapper; first | (rw [if_pos (by decide +kernel)]; kernel_rfl) | (rw [if_neg (by decide +kernel)]; exact ⟨rfl, rfl⟩))
    (fun os started H enc _ => lifted os started H enc)

/-- ████ THE STATEMENT ████ -/
theorem proved : Rows.WholeRoundsSaid :=
  over
#print axioms proved
end Go.Proofs.Ytkmapegglgcfnaa.wholeRounds
