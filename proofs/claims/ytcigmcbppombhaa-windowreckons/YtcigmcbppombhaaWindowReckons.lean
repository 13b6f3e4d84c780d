/- PROVED: for any three numbers, package window answers of a task of e quanta in p and its i-th quantum (May, Release, Deadline, Bit, Group, Heavy) what the document's own reckoning says; no condition. -/
import Derived.Test.YtcigmcbppombhaaRows
import Derived.WalkKit
import Derived.ProofKit
import Derived.OpenShut
import Derived.ShutString
import Derived.Test.YtcigmcbppombhaaC2
namespace Go.Proofs.Ytcigmcbppombhaa.windowReckons
open Go.ChangeShapes Go.WideShapes Go.ChangeAt Go.RowKit
open Go.ChangeMaps (open_string shut_string)
set_option linter.unusedVariables false      -- a walk need not use every 'w<i>' (that an integer argument fits its kind)

theorem own : ownKnob Try.prog.godebug = none := by kernel_rfl

/-! ### STEP 1: THE WALK: the Go text returns true. 'Grown w w'': the world has at most new blocks (Derived/RowKit3.lean). Part the cases AHEAD of 'go_enter' where a test parts the walk; take each callee by a contract of your own. -/
set_option maxRecDepth 100000 in
set_option maxHeartbeats 8000000 in
theorem walk (a0 : Int) (a1 : Int) (a2 : Int) (w0 : (Lit.int .i64 a0).wf = true) (w1 : (Lit.int .i64 a1).wf = true) (w2 : (Lit.int .i64 a2).wf = true) (w : World) :
    Calls Try.prog 3 #[.int .i64 a0, .int .i64 a1, .int .i64 a2] w fun e w' => e = .returned (.bool true) ∧ Grown w w' := by
  obtain ⟨x0, x1⟩ := bounds_i64 w0
  obtain ⟨x2, x3⟩ := bounds_i64 w1
  clear w0 w1 w2
  by_cases hq : Quan a0 a1 a2
  · have h1 := hq.e1; have h2 := hq.ep; have h3 := hq.pm; have h4 := hq.i1; have h5 := hq.ie
    rcases Int.lt_or_le (2 * a0) a1 with c | c
    · go_enter Try.func3, Try.ntmps3
      go_wp2_with fail
      refine (awake_true _).mono ?_
      rintro e w0 ⟨rfl, rfl⟩
      go_wp2_with fail
      refine (window_flat _ _ _ _ hq (.inl c)).mono ?_
      rintro e w1 ⟨rfl, rfl⟩
      unfold Four
      go_wp2_with fail
      refine (taskMay_yes _ _ _ hq.toTask).mono ?_
      rintro e w0 ⟨rfl, rfl⟩
      go_wp2_with fail
      refine (may_yes _ _ _ _ hq).mono ?_
      rintro e w0 ⟨rfl, rfl⟩
      go_wp2_with fail
      refine (release_yes _ _ _ _ _ hq rfl).mono ?_
      rintro e w0 ⟨rfl, rfl⟩
      go_wp2_with fail
      refine (deadline_yes _ _ _ _ _ hq rfl).mono ?_
      rintro e w0 ⟨rfl, rfl⟩
      go_wp2_with fail
      refine (bit_yes _ _ _ _ _ hq rfl).mono ?_
      rintro e w0 ⟨rfl, rfl⟩
      go_wp2_with fail
      refine (group_no _ _ _ _ (.inr ⟨hq, .inl c⟩)).mono ?_
      rintro e w0 ⟨rfl, rfl⟩
      go_wp2_with fail
      refine (heavy_no _ _ _ (.inr ⟨hq.toTask, c⟩)).mono ?_
      rintro e w0 ⟨rfl, rfl⟩
      go_wp2_with fail
      refine (taskMay_yes _ _ _ hq.toTask).mono ?_
      rintro e w0 ⟨rfl, rfl⟩
      go_wp2
      go_ret
      exact ⟨by first | rfl | exact ret_bool (by simp <;> omega), Grown.refl _⟩
    · by_cases d : a0 = a1
      · subst d
        go_enter Try.func3, Try.ntmps3
        go_wp2_with fail
        refine (awake_true _).mono ?_
        rintro e w0 ⟨rfl, rfl⟩
        go_wp2_with fail
        refine (window_flat _ _ _ _ hq (.inr ⟨c, rfl⟩)).mono ?_
        rintro e w1 ⟨rfl, rfl⟩
        unfold Four
        go_wp2_with fail
        refine (taskMay_yes _ _ _ hq.toTask).mono ?_
        rintro e w0 ⟨rfl, rfl⟩
        go_wp2_with fail
        refine (may_yes _ _ _ _ hq).mono ?_
        rintro e w0 ⟨rfl, rfl⟩
        go_wp2_with fail
        refine (release_yes _ _ _ _ _ hq rfl).mono ?_
        rintro e w0 ⟨rfl, rfl⟩
        go_wp2_with fail
        refine (deadline_yes _ _ _ _ _ hq rfl).mono ?_
        rintro e w0 ⟨rfl, rfl⟩
        go_wp2_with fail
        refine (bit_yes _ _ _ _ _ hq rfl).mono ?_
        rintro e w0 ⟨rfl, rfl⟩
        go_wp2_with fail
        refine (group_no _ _ _ _ (.inr ⟨hq, .inr rfl⟩)).mono ?_
        rintro e w0 ⟨rfl, rfl⟩
        go_wp2_with fail
        refine (heavy_yes _ _ _ hq.toTask c).mono ?_
        rintro e w0 ⟨rfl, rfl⟩
        go_wp2_with fail
        refine (taskMay_yes _ _ _ hq.toTask).mono ?_
        rintro e w0 ⟨rfl, rfl⟩
        go_wp2
        go_ret
        exact ⟨by first | rfl | exact ret_bool (by simp <;> omega), Grown.refl _⟩
      · have hl : a0 < a1 := by omega
        clear d
        go_enter Try.func3, Try.ntmps3
        go_wp2_with fail
        refine (awake_true _).mono ?_
        rintro e w0 ⟨rfl, rfl⟩
        go_wp2_with fail
        refine (window_heavy _ _ _ _ hq c hl).mono ?_
        rintro e w1 ⟨rfl, g1⟩
        unfold Four
        go_wp2_with fail
        refine (taskMay_yes _ _ _ hq.toTask).mono ?_
        rintro e w0 ⟨rfl, rfl⟩
        go_wp2_with fail
        refine (may_yes _ _ _ _ hq).mono ?_
        rintro e w0 ⟨rfl, rfl⟩
        go_wp2_with fail
        refine (release_yes _ _ _ _ _ hq rfl).mono ?_
        rintro e w0 ⟨rfl, rfl⟩
        go_wp2_with fail
        refine (deadline_yes _ _ _ _ _ hq rfl).mono ?_
        rintro e w0 ⟨rfl, rfl⟩
        go_wp2_with fail
        refine (bit_yes _ _ _ _ _ hq rfl).mono ?_
        rintro e w0 ⟨rfl, rfl⟩
        go_wp2_with fail
        refine (group_yes _ _ _ _ _ hq c hl rfl).mono ?_
        rintro e w0 ⟨rfl, rfl⟩
        go_wp2_with fail
        refine (heavy_yes _ _ _ hq.toTask c).mono ?_
        rintro e w0 ⟨rfl, rfl⟩
        go_wp2_with fail
        refine (taskMay_yes _ _ _ hq.toTask).mono ?_
        rintro e w0 ⟨rfl, rfl⟩
        go_wp2
        go_ret
        exact ⟨by first | rfl | exact ret_bool (by simp <;> omega), g1⟩
  · by_cases ht : Task a0 a1
    · have h1 := ht.e1; have h2 := ht.ep; have h3 := ht.pm
      have hi : a2 < 1 ∨ (1 ≤ a2 ∧ decide (a2 ≤ a0) = false) := by
        rcases Int.lt_or_le a2 1 with a | a
        · exact .inl a
        rcases Int.lt_or_le a0 a2 with b | b
        · exact .inr ⟨a, by simp; omega⟩
        · exact absurd ⟨ht, a, b⟩ hq
      rcases Int.lt_or_le (2 * a0) a1 with c | c
      · rcases hi with a | ⟨a, b⟩
        all_goals
          go_enter Try.func3, Try.ntmps3
          go_wp2_with fail
          refine (awake_true _).mono ?_
          rintro e w0 ⟨rfl, rfl⟩
          go_wp2_with fail
          refine (window_no _ _ _ _ hq).mono ?_
          rintro e w1 ⟨rfl, rfl⟩
          unfold Four
          go_wp2_with fail
          refine (taskMay_yes _ _ _ ht).mono ?_
          rintro e w0 ⟨rfl, rfl⟩
          go_wp2_with fail
          refine (may_no _ _ _ _ hq).mono ?_
          rintro e w0 ⟨rfl, rfl⟩
          go_wp2_with fail
          refine (release_no _ _ _ _ hq).mono ?_
          rintro e w0 ⟨rfl, rfl⟩
          go_wp2_with fail
          refine (deadline_no _ _ _ _ hq).mono ?_
          rintro e w0 ⟨rfl, rfl⟩
          go_wp2_with fail
          refine (bit_no _ _ _ _ hq).mono ?_
          rintro e w0 ⟨rfl, rfl⟩
          go_wp2_with fail
          refine (group_no _ _ _ _ (.inl hq)).mono ?_
          rintro e w0 ⟨rfl, rfl⟩
          go_wp2_with fail
          refine (heavy_no _ _ _ (.inr ⟨ht, c⟩)).mono ?_
          rintro e w0 ⟨rfl, rfl⟩
          go_wp2_with fail
          refine (taskMay_yes _ _ _ ht).mono ?_
          rintro e w0 ⟨rfl, rfl⟩
          go_wp2
          go_ret
          exact ⟨by first | rfl | exact ret_bool (by simp <;> omega), Grown.refl _⟩
      · rcases hi with a | ⟨a, b⟩
        all_goals
          go_enter Try.func3, Try.ntmps3
          go_wp2_with fail
          refine (awake_true _).mono ?_
          rintro e w0 ⟨rfl, rfl⟩
          go_wp2_with fail
          refine (window_no _ _ _ _ hq).mono ?_
          rintro e w1 ⟨rfl, rfl⟩
          unfold Four
          go_wp2_with fail
          refine (taskMay_yes _ _ _ ht).mono ?_
          rintro e w0 ⟨rfl, rfl⟩
          go_wp2_with fail
          refine (may_no _ _ _ _ hq).mono ?_
          rintro e w0 ⟨rfl, rfl⟩
          go_wp2_with fail
          refine (release_no _ _ _ _ hq).mono ?_
          rintro e w0 ⟨rfl, rfl⟩
          go_wp2_with fail
          refine (deadline_no _ _ _ _ hq).mono ?_
          rintro e w0 ⟨rfl, rfl⟩
          go_wp2_with fail
          refine (bit_no _ _ _ _ hq).mono ?_
          rintro e w0 ⟨rfl, rfl⟩
          go_wp2_with fail
          refine (group_no _ _ _ _ (.inl hq)).mono ?_
          rintro e w0 ⟨rfl, rfl⟩
          go_wp2_with fail
          refine (heavy_yes _ _ _ ht c).mono ?_
          rintro e w0 ⟨rfl, rfl⟩
          go_wp2_with fail
          refine (taskMay_yes _ _ _ ht).mono ?_
          rintro e w0 ⟨rfl, rfl⟩
          go_wp2
          go_ret
          exact ⟨by first | rfl | exact ret_bool (by simp <;> omega), Grown.refl _⟩
    · go_enter Try.func3, Try.ntmps3
      go_wp2_with fail
      refine (awake_true _).mono ?_
      rintro e w0 ⟨rfl, rfl⟩
      go_wp2_with fail
      refine (window_no _ _ _ _ hq).mono ?_
      rintro e w1 ⟨rfl, rfl⟩
      unfold Four
      go_wp2_with fail
      refine (taskMay_no _ _ _ ht).mono ?_
      rintro e w0 ⟨rfl, rfl⟩
      go_wp2_with fail
      refine (may_no _ _ _ _ hq).mono ?_
      rintro e w0 ⟨rfl, rfl⟩
      go_wp2_with fail
      refine (release_no _ _ _ _ hq).mono ?_
      rintro e w0 ⟨rfl, rfl⟩
      go_wp2_with fail
      refine (deadline_no _ _ _ _ hq).mono ?_
      rintro e w0 ⟨rfl, rfl⟩
      go_wp2_with fail
      refine (bit_no _ _ _ _ hq).mono ?_
      rintro e w0 ⟨rfl, rfl⟩
      go_wp2_with fail
      refine (group_no _ _ _ _ (.inl hq)).mono ?_
      rintro e w0 ⟨rfl, rfl⟩
      go_wp2_with fail
      refine (heavy_no _ _ _ (.inl ht)).mono ?_
      rintro e w0 ⟨rfl, rfl⟩
      go_wp2_with fail
      refine (taskMay_no _ _ _ ht).mono ?_
      rintro e w0 ⟨rfl, rfl⟩
      go_wp2
      go_ret
      exact ⟨by first | rfl | exact ret_bool (by simp <;> omega), Grown.refl _⟩

/-! ### THE ROW's STEP: WRITTEN OUT: LEAVE IT -/
set_option maxRecDepth 100000 in
theorem lifted (os : Os) (started : os.Started) (H : Type) (enc : TypeId × Value → H) :
    ReturnsInHanded {} Try.checked os 3 .any (Rows.windowReckonsSpec.pre6 enc Try.prog Try.f3 Rows.windowReckonsRow.domain false) (Rows.windowReckonsSpec.post enc Try.prog Try.f3 false true false false) := by
  refine returnsInHanded_of_change (C := Try.checked) own started (by kernel_rfl) Try.func3
    (ChangeSpec.witness6 (enc := enc) (C := Try.checked) false ⟨#[], #[.int .i64 0, .int .i64 0, .int .i64 0], []⟩ 8 (by kernel_rfl) (by kernel_rfl) (by kernel_rfl) (by kernel_rfl)) ?_
  intro W base args ds gs before hval0 hW hcnd _
  have hval : ∀ (j : Nat) t v, Try.f3.params[j]? = some t → args[j]? = some v → Value.okWide Try.prog W .any base t v := hval0
  have hW' := hW
  obtain ⟨p, q, hA0, hV, rfl, hfz, hnd⟩ := hW
  have hA : DataW.TrodAll enc Try.prog W 0 (fun _ => true) true Try.f3.params.toList args.toList ds p := hA0
  rw [Try.params3] at hA hval
  obtain ⟨v0, vs0, d0, ds0, p0, q0, hargs, rfl, rfl, h0, r0⟩ := trodAll_cons hA
  obtain ⟨v1, vs1, d1, ds1, p1, q1, rfl, rfl, rfl, h1, r1⟩ := trodAll_cons r0
  obtain ⟨v2, vs2, d2, ds2, p2, q2, rfl, rfl, rfl, h2, r2⟩ := trodAll_cons r1
  obtain ⟨rfl, rfl, rfl⟩ := trodAll_nil r2
  obtain rfl : args = #[v0, v1, v2] := by cases args; simp_all
  obtain ⟨rfl, rfl⟩ := trodVars_none hV
  obtain ⟨a0, rfl, rfl, rfl, w0⟩ := open_int Try.underlying3 (hval 0 3 v0 rfl rfl) h0
  obtain ⟨a1, rfl, rfl, rfl, w1⟩ := open_int Try.underlying3 (hval 1 3 v1 rfl rfl) h1
  obtain ⟨a2, rfl, rfl, rfl, w2⟩ := open_int Try.underlying3 (hval 2 3 v2 rfl rfl) h2
  clear hA0 hval0
  simp only [List.append_nil] at hW'
  refine (walk a0 a1 a2 w0 w1 w2 W).mono fun e W' ⟨he, hg⟩ => ?_
  subst he
  exact ⟨_, rfl, post_of_same (pa := []) (pv := []) hW' (fun _ _ _ => (trodAll_cons_mk (shut_bool Try.underlying4 _) trodAll_mk0)) (fun sp _ => (trodAll_cons_mk (shut_int Try.underlying3 w0) (trodAll_cons_mk (shut_int Try.underlying3 w1) (trodAll_cons_mk (shut_int Try.underlying3 w2) trodAll_mk0)))) (fun _ _ => rfl) rfl
    (hg.frame _) hg.2.1 (ok_one (by kernel_rfl) rfl (okWide_bool_mk Try.underlying4 _))⟩

theorem over : Rows.windowReckonsRow.holds Try.pinned (OpenSpec.ofChange Rows.windowReckonsSpec) :=
  OpenClaim.holds_of_wide 3 Try.f3 rfl rfl rfl rfl rfl rfl rfl ⟨rfl, rfl, rfl, rfl, rfl⟩ rfl rfl rfl rfl rfl (by kernel_rfl) Try.func3 (by kernel_rfl)
    (of_decide_eq_true (by kernel_rfl)) (by unfold Func.isWrapper; first | (rw [if_pos (by decide +kernel)]; kernel_rfl) | (rw [if_neg (by decide +kernel)]; exact ⟨rfl, rfl⟩))
    (fun os started H enc _ => lifted os started H enc)

/-- ████ THE STATEMENT ████ -/
theorem proved : Rows.WindowReckonsSaid :=
  over
#print axioms proved
end Go.Proofs.Ytcigmcbppombhaa.windowReckons
