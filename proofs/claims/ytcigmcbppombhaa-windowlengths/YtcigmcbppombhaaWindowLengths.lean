/- PROVED: for any task of at most 3000 quanta all its windows are as long as the law WindowLengths says (all numbers beyond are true by the law's own words); no condition. -/
import Derived.Test.YtcigmcbppombhaaRows
import Derived.WalkKit
import Derived.ProofKit
import Derived.OpenShut
import Derived.ShutString
import Derived.Test.YtcigmcbppombhaaL3
namespace Go.Proofs.Ytcigmcbppombhaa.windowLengths
open Go.ChangeShapes Go.WideShapes Go.ChangeAt Go.RowKit
open Go.ChangeMaps (open_string shut_string)
set_option linter.unusedVariables false      -- a walk need not use every 'w<i>' (that an integer argument fits its kind)

theorem own : ownKnob Try.prog.godebug = none := by kernel_rfl

/-! ### STEP 1: THE WALK: the Go text returns true. 'Grown w w'': the world has at most new blocks (Derived/RowKit3.lean). Part the cases AHEAD of 'go_enter' where a test parts the walk; take each callee by a contract of your own. -/
set_option maxRecDepth 100000 in
set_option maxHeartbeats 8000000 in
theorem walk (a0 : Int) (a1 : Int) (w0 : (Lit.int .i64 a0).wf = true) (w1 : (Lit.int .i64 a1).wf = true) (w : World) :
    Calls Try.prog 10 #[.int .i64 a0, .int .i64 a1] w fun e w' => e = .returned (.bool true) ∧ Grown w w' := by
  clear w0 w1
  by_cases ht : Task a0 a1
  · have h1 := ht.e1; have h2 := ht.ep; have h3 := ht.pm
    by_cases c : 3000 < a0
    · go_enter Try.func10, Try.ntmps10
      go_wp2_with fail
      refine (awake_true _).mono ?_
      rintro e w0 ⟨rfl, rfl⟩
      go_wp2_with fail
      refine (taskMay_yes _ _ _ ht).mono ?_
      rintro e w0 ⟨rfl, rfl⟩
      go_wp2
      go_ret
      exact ⟨rfl, Grown.refl _⟩
    · have c' : a0 ≤ 3000 := by omega
      clear c
      obtain ⟨q0, q1⟩ := cl_bd h1 h2
      go_enter Try.func10, Try.ntmps10
      go_wp2_with fail
      refine (awake_true _).mono ?_
      rintro e w0 ⟨rfl, rfl⟩
      go_wp2_with fail
      refine (taskMay_yes _ _ _ ht).mono ?_
      rintro e w0 ⟨rfl, rfl⟩
      go_wp2
      go_loop [5, 6, 7] (fun l m i => Lens a0 a1 l m i) (fun _ _ i => (a0 + 1 - intOf i).toNat)
      case atStart => exact ⟨a1, 0, 1, rfl, rfl, rfl, by omega, by omega, q1, by omega, by omega, by omega⟩
      case round =>
        obtain ⟨L, M, k, rfl, rfl, rfl, k1, k2, L1, L2, M1, M2⟩ := hrel
        by_cases hk : k ≤ a0
        · have hq : Quan a0 a1 k := ⟨ht, k1, hk⟩
          obtain ⟨n0, n1⟩ := length_bd hq
          obtain ⟨r0, r1⟩ := rel_bd hq
          obtain ⟨d0, d1⟩ := dl_bd hq
          obtain ⟨r, hr⟩ : ∃ r, rel a0 a1 k = r := ⟨_, rfl⟩
          obtain ⟨d, hd⟩ : ∃ d, dl a0 a1 k = d := ⟨_, rfl⟩
          rw [hr, hd] at n0 n1
          rw [hr] at r0 r1
          rw [hd] at d0 d1
          have HR := Lib.hid hr
          have HD := Lib.hid hd
          clear hr hd
          obtain ⟨n, hn⟩ : ∃ n, d - r = n := ⟨_, rfl⟩
          rw [hn] at n0 n1
          have n2 : n ≤ 1048575 := by omega
          have n3 : 0 ≤ n := by omega
          by_cases c1 : n < L <;> by_cases c2 : M < n
          all_goals
            go_wp2_with fail
            refine (deadline_yes _ _ _ d _ hq HD.out).mono ?_
            rintro e w0 ⟨rfl, rfl⟩
            go_wp2_with fail
            refine (release_yes _ _ _ r _ hq HR.out).mono ?_
            rintro e w0 ⟨rfl, rfl⟩
            go_wp2
            go_round
            case rel => exact ⟨_, _, k + 1, rfl, rfl, rfl, by omega, by omega, by omega, by omega, by omega, by omega⟩
            case measure => simp [intOf]; omega
        · have hk' : a0 < k := by omega
          clear hk
          have qe : (a1 + a0 - 1) / a0 = cl a1 a0 := rfl
          rcases Int.lt_or_le (2 * a0) a1 with cc | cc
          · have q2 := cl_light h1 cc
            have t1 : 3 ≤ L := by omega
            go_wp2_with fail
            refine (heavy_no _ _ _ (.inr ⟨ht, cc⟩)).mono ?_
            rintro e w0 ⟨rfl, rfl⟩
            go_wp2_with fail
            refine (heavy_no _ _ _ (.inr ⟨ht, cc⟩)).mono ?_
            rintro e w0 ⟨rfl, rfl⟩
            go_wp2
            go_ret
            exact ⟨rfl, Grown.refl _⟩
          · have q2 := cl_heavy h1 cc
            have t1 : M ≤ 3 := by omega
            go_wp2_with fail
            refine (heavy_yes _ _ _ ht cc).mono ?_
            rintro e w0 ⟨rfl, rfl⟩
            go_wp2_with fail
            refine (heavy_yes _ _ _ ht cc).mono ?_
            rintro e w0 ⟨rfl, rfl⟩
            go_wp2
            go_ret
            exact ⟨rfl, Grown.refl _⟩
  · go_enter Try.func10, Try.ntmps10
    go_wp2_with fail
    refine (awake_true _).mono ?_
    rintro e w0 ⟨rfl, rfl⟩
    go_wp2_with fail
    refine (taskMay_no _ _ _ ht).mono ?_
    rintro e w0 ⟨rfl, rfl⟩
    go_wp2
    go_ret
    exact ⟨rfl, Grown.refl _⟩

/-! ### THE ROW's STEP: WRITTEN OUT: LEAVE IT -/
set_option maxRecDepth 100000 in
theorem lifted (os : Os) (started : os.Started) (H : Type) (enc : TypeId × Value → H) :
    ReturnsInHanded {} Try.checked os 10 .any (Rows.windowLengthsSpec.pre6 enc Try.prog Try.f10 Rows.windowLengthsRow.domain false) (Rows.windowLengthsSpec.post enc Try.prog Try.f10 false true false false) := by
  refine returnsInHanded_of_change (C := Try.checked) own started (by kernel_rfl) Try.func10
    (ChangeSpec.witness6 (enc := enc) (C := Try.checked) false ⟨#[], #[.int .i64 0, .int .i64 0], []⟩ 8 (by kernel_rfl) (by kernel_rfl) (by kernel_rfl) (by kernel_rfl)) ?_
  intro W base args ds gs before hval0 hW hcnd _
  have hval : ∀ (j : Nat) t v, Try.f10.params[j]? = some t → args[j]? = some v → Value.okWide Try.prog W .any base t v := hval0
  have hW' := hW
  obtain ⟨p, q, hA0, hV, rfl, hfz, hnd⟩ := hW
  have hA : DataW.TrodAll enc Try.prog W 0 (fun _ => true) true Try.f10.params.toList args.toList ds p := hA0
  rw [Try.params10] at hA hval
  obtain ⟨v0, vs0, d0, ds0, p0, q0, hargs, rfl, rfl, h0, r0⟩ := trodAll_cons hA
  obtain ⟨v1, vs1, d1, ds1, p1, q1, rfl, rfl, rfl, h1, r1⟩ := trodAll_cons r0
  obtain ⟨rfl, rfl, rfl⟩ := trodAll_nil r1
  obtain rfl : args = #[v0, v1] := by cases args; simp_all
  obtain ⟨rfl, rfl⟩ := trodVars_none hV
  obtain ⟨a0, rfl, rfl, rfl, w0⟩ := open_int Try.underlying3 (hval 0 3 v0 rfl rfl) h0
  obtain ⟨a1, rfl, rfl, rfl, w1⟩ := open_int Try.underlying3 (hval 1 3 v1 rfl rfl) h1
  clear hA0 hval0
  simp only [List.append_nil] at hW'
  refine (walk a0 a1 w0 w1 W).mono fun e W' ⟨he, hg⟩ => ?_
  subst he
  exact ⟨_, rfl, post_of_same (pa := []) (pv := []) hW' (fun _ _ _ => (trodAll_cons_mk (shut_bool Try.underlying4 _) trodAll_mk0)) (fun sp _ => (trodAll_cons_mk (shut_int Try.underlying3 w0) (trodAll_cons_mk (shut_int Try.underlying3 w1) trodAll_mk0))) (fun _ _ => rfl) rfl
    (hg.frame _) hg.2.1 (ok_one (by kernel_rfl) rfl (okWide_bool_mk Try.underlying4 _))⟩

theorem over : Rows.windowLengthsRow.holds Try.pinned (OpenSpec.ofChange Rows.windowLengthsSpec) :=
  OpenClaim.holds_of_wide 10 Try.f10 rfl rfl rfl rfl rfl rfl rfl ⟨rfl, rfl, rfl, rfl, rfl⟩ rfl rfl rfl rfl rfl (by kernel_rfl) Try.func10 (by kernel_rfl)
    (of_decide_eq_true (by kernel_rfl)) (by unfold Func.isWrapper; first | (rw [if_pos (by decide +kernel)]; kernel_rfl) | (rw [if_neg (by decide +kernel)]; exact ⟨rfl, rfl⟩))
    (fun os started H enc _ => lifted os started H enc)

/-- ████ THE STATEMENT ████ -/
theorem proved : Rows.WindowLengthsSaid :=
  over
#print axioms proved
end Go.Proofs.Ytcigmcbppombhaa.windowLengths
