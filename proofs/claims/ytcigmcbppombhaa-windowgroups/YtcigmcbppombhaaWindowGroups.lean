/- PROVED: the group deadline of a quantum of a heavy task is where the law WindowGroups finds the end of its row, counted on window by window; no condition. -/
import Derived.Test.YtcigmcbppombhaaRows
import Derived.WalkKit
import Derived.ProofKit
import Derived.OpenShut
import Derived.ShutString
import Derived.Test.YtcigmcbppombhaaL3
namespace Go.Proofs.Ytcigmcbppombhaa.windowGroups
open Go.ChangeShapes Go.WideShapes Go.ChangeAt Go.RowKit
open Go.ChangeMaps (open_string shut_string)
set_option linter.unusedVariables false      -- a walk need not use every 'w<i>' (that an integer argument fits its kind)

theorem own : ownKnob Try.prog.godebug = none := by kernel_rfl

/-! ### STEP 1: THE WALK: the Go text returns true. 'Grown w w'': the world has at most new blocks (Derived/RowKit3.lean). Part the cases AHEAD of 'go_enter' where a test parts the walk; take each callee by a contract of your own. -/
set_option maxRecDepth 100000 in
set_option maxHeartbeats 8000000 in
theorem walk (a0 : Int) (a1 : Int) (a2 : Int) (w0 : (Lit.int .i64 a0).wf = true) (w1 : (Lit.int .i64 a1).wf = true) (w2 : (Lit.int .i64 a2).wf = true) (w : World) :
    Calls Try.prog 5 #[.int .i64 a0, .int .i64 a1, .int .i64 a2] w fun e w' => e = .returned (.bool true) ∧ Grown w w' := by
  clear w0 w1 w2
  by_cases ht : Task a0 a1
  · have h1 := ht.e1; have h2 := ht.ep; have h3 := ht.pm
    by_cases c1 : 2 * a0 < a1
    · go_enter Try.func5, Try.ntmps5
      go_wp2_with fail
      refine (awake_true _).mono ?_
      rintro e w0 ⟨rfl, rfl⟩
      go_wp2_with fail
      refine (taskMay_yes _ _ _ ht).mono ?_
      rintro e w0 ⟨rfl, rfl⟩
      go_wp2
      go_ret
      exact ⟨rfl, Grown.refl _⟩
    have c1' : a1 ≤ 2 * a0 := by omega
    clear c1
    by_cases c2 : a0 = a1
    · have e2 : (a0 == a1) = true := by simp [c2]
      clear c2
      go_enter Try.func5, Try.ntmps5
      go_wp2_with fail
      refine (awake_true _).mono ?_
      rintro e w0 ⟨rfl, rfl⟩
      go_wp2_with fail
      refine (taskMay_yes _ _ _ ht).mono ?_
      rintro e w0 ⟨rfl, rfl⟩
      go_wp2
      go_ret
      exact ⟨rfl, Grown.refl _⟩
    have c2' : a0 < a1 := by omega
    have e2 : (a0 == a1) = false := by simp [c2]
    clear c2
    by_cases c3 : 400 < a1
    · go_enter Try.func5, Try.ntmps5
      go_wp2_with fail
      refine (awake_true _).mono ?_
      rintro e w0 ⟨rfl, rfl⟩
      go_wp2_with fail
      refine (taskMay_yes _ _ _ ht).mono ?_
      rintro e w0 ⟨rfl, rfl⟩
      go_wp2
      go_ret
      exact ⟨rfl, Grown.refl _⟩
    have c3' : a1 ≤ 400 := by omega
    clear c3
    by_cases c4 : a2 < 1
    · go_enter Try.func5, Try.ntmps5
      go_wp2_with fail
      refine (awake_true _).mono ?_
      rintro e w0 ⟨rfl, rfl⟩
      go_wp2_with fail
      refine (taskMay_yes _ _ _ ht).mono ?_
      rintro e w0 ⟨rfl, rfl⟩
      go_wp2
      go_ret
      exact ⟨rfl, Grown.refl _⟩
    have c4' : 1 ≤ a2 := by omega
    clear c4
    by_cases c5 : a0 < a2
    · go_enter Try.func5, Try.ntmps5
      go_wp2_with fail
      refine (awake_true _).mono ?_
      rintro e w0 ⟨rfl, rfl⟩
      go_wp2_with fail
      refine (taskMay_yes _ _ _ ht).mono ?_
      rintro e w0 ⟨rfl, rfl⟩
      go_wp2
      go_ret
      exact ⟨rfl, Grown.refl _⟩
    have c5' : a2 ≤ a0 := by omega
    clear c5
    have hq0 : Quan a0 a1 a2 := ⟨ht, c4', c5'⟩
    go_enter Try.func5, Try.ntmps5
    go_wp2_with fail
    refine (awake_true _).mono ?_
    rintro e w0 ⟨rfl, rfl⟩
    go_wp2_with fail
    refine (taskMay_yes _ _ _ ht).mono ?_
    rintro e w0 ⟨rfl, rfl⟩
    go_wp2
    go_loopw [7] (fun i wr => Grp a0 a1 a2 i w wr) (fun i _ => (a0 + 1 - intOf i).toNat)
    case atStart => exact ⟨a2, rfl, Int.le_refl _, c5', .inl rfl, Grown.refl _⟩
    case round =>
      obtain ⟨k, rfl, k1, k2, hrow, hw⟩ := hrel
      have hq : Quan a0 a1 k := ⟨ht, by omega, k2⟩
      obtain ⟨b0, b1⟩ := ip_bd hq
      obtain ⟨b2, b3⟩ := jp_bd hq
      obtain ⟨r0, r1⟩ := rel_bd hq
      obtain ⟨d0, d1⟩ := dl_bd hq
      have hlen := length_23 hq c2' c1'
      have g3 : k ≠ a2 → dl a0 a1 k - rel a0 a1 k = 3 → gp a0 a1 a2 = dl a0 a1 k - 1 := by
        intro x y
        rcases hrow with z | ⟨z1, z2, z3⟩
        · exact absurd z x
        · have := gp_three (e := a0) (p := a1) (i := k - 1) ht c2' z2 (by rw [show k - 1 + 1 = k by omega]; exact y)
          rw [show k - 1 + 1 = k by omega] at this
          omega
      have g2 : k = a2 ∨ dl a0 a1 k - rel a0 a1 k = 2 → gp a0 a1 k = gp a0 a1 a2 := by
        intro x
        rcases hrow with z | ⟨z1, z2, z3⟩
        · rw [z]
        · rcases x with x | x
          · omega
          · have := gp_same (e := a0) (p := a1) (i := k - 1) ht z2 (by rw [show k - 1 + 1 = k by omega]; exact x)
            rw [show k - 1 + 1 = k by omega] at this
            omega
      have gz := gp_zero hq c2'
      have hlt := bt_one_lt hq
      clear hrow
      obtain ⟨r, hr⟩ : ∃ r, rel a0 a1 k = r := ⟨_, rfl⟩
      obtain ⟨d, hd⟩ : ∃ d, dl a0 a1 k = d := ⟨_, rfl⟩
      obtain ⟨g, hg⟩ : ∃ g, gp a0 a1 a2 = g := ⟨_, rfl⟩
      rw [hr] at r0 r1 hlen g3 g2
      rw [hd] at d0 d1 hlen g3 g2 gz
      rw [hg] at g3 g2
      have e3 : (k - 1) * a1 / a0 = r := hr
      have e4 : (k * a1 + a0 - 1) / a0 = d := hd
      have HG := Lib.hid hg
      clear hr hd hg
      have G3 := Lib.hid g3
      have G2 := Lib.hid g2
      have GZ := Lib.hid gz
      have HLT := Lib.hid hlt
      clear g3 g2 gz hlt
      have k3 : IntKind.i64.wrap (k - 1) = k - 1 := IntWalk.i64_in _ (by omega)
      have k4 : IntKind.i64.wrap ((k - 1) * a1) = (k - 1) * a1 := IntWalk.i64_in _ (by omega)
      have k5 : IntKind.i64.wrap (k * a1) = k * a1 := IntWalk.i64_in _ (by omega)
      have k6 : IntKind.i64.wrap (k * a1 + a0) = k * a1 + a0 := IntWalk.i64_in _ (by omega)
      have k7 : IntKind.i64.wrap (k * a1 + a0 - 1) = k * a1 + a0 - 1 := IntWalk.i64_in _ (by omega)
      obtain ⟨n, hn⟩ : ∃ n, d - r = n := ⟨_, rfl⟩
      rw [hn] at hlen
      have HN := Lib.hid hn
      have cases3 : ((n == 3) = true ∧ a2 < k) ∨ ((n == 3) = true ∧ k ≤ a2) ∨ (n == 3) = false := by
        rcases Int.lt_or_le a2 k with x | x
        · rcases hlen with y | y
          · exact .inr (.inr (by simp [y]))
          · exact .inl ⟨by simp [y], x⟩
        · rcases hlen with y | y
          · exact .inr (.inr (by simp [y]))
          · exact .inr (.inl ⟨by simp [y], x⟩)
      have over : ((k * a1 % a0 != 0) = false ∧ bt a0 a1 k = 0) ∨ ((k * a1 % a0 != 0) = true ∧ bt a0 a1 k = 1) := by
        unfold bt
        by_cases x : k * a1 % a0 = 0
        · exact .inl ⟨by simp [x], if_pos x⟩
        · exact .inr ⟨by simp [x], if_neg x⟩
      rcases cases3 with ⟨n3, hk⟩ | hrest
      · have t : (g == d - 1) = true := by have := G3.out (by omega) (by have := HN.out; simp at n3; omega); simp [this]
        clear hlen
        rcases over with ⟨ov, _⟩ | ⟨ov, _⟩
        all_goals
          go_wp2
          go_quiet (fail)
          go_wp2_with fail
          refine (group_yes _ _ _ g _ hq0 c1' c2' HG.out).mono ?_
          rintro e w0 ⟨rfl, rfl⟩
          go_wp2
          go_ret
          exact ⟨by first | rfl | exact ret_bool (by simp <;> omega), grown_drewN hw _⟩
      · have hgk : gp a0 a1 k = g := by
          refine G2.out ?_
          rcases hrest with ⟨_, x⟩ | x
          · exact .inl (by omega)
          · exact .inr (by rw [HN.out]; simp at x; omega)
        have HGK := Lib.hid hgk
        clear hlen
        rcases over with ⟨ov, ob⟩ | ⟨ov, ob⟩
        · have t : (g == d) = true := by have := GZ.out ob; simp; omega
          clear ob hgk
          rcases hrest with ⟨n3, hk⟩ | n3
          all_goals
            go_wp2
            go_quiet (fail)
            go_wp2_with fail
            refine (group_yes _ _ _ g _ hq0 c1' c2' HG.out).mono ?_
            rintro e w0 ⟨rfl, rfl⟩
            go_wp2
            go_ret
            exact ⟨by first | rfl | exact ret_bool (by simp <;> omega), grown_drewN hw _⟩
        · have hl := HLT.out ob
          have OB := Lib.hid ob
          clear ob hgk
          rcases hrest with ⟨n3, hk⟩ | n3
          all_goals
            go_wp2
            go_quiet (fail)
            go_wp2
            go_roundw
            case rel => exact ⟨k + 1, rfl, by omega, by omega, .inr ⟨by omega, by rw [show k + 1 - 1 = k by omega]; exact OB.out, by rw [show k + 1 - 1 = k by omega, HGK.out, HG.out]⟩, grown_drewN hw _⟩
            case measure => simp [intOf]; omega
  · go_enter Try.func5, Try.ntmps5
    go_wp2_with fail
    refine (awake_true _).mono ?_
    rintro e w0 ⟨rfl, rfl⟩
    go_wp2_with fail
    refine (taskMay_no _ _ _ ht).mono ?_
    rintro e w0 ⟨rfl, rfl⟩
    go_wp2
    go_ret
    exact ⟨rfl, Grown.refl _⟩

/-! ### THE ROW's STEP: WRITTEN OUT: LEAVE IT -/
set_option maxRecDepth 100000 in
theorem lifted (os : Os) (started : os.Started) (H : Type) (enc : TypeId × Value → H) :
    ReturnsInHanded {} Try.checked os 5 .any (Rows.windowGroupsSpec.pre6 enc Try.prog Try.f5 Rows.windowGroupsRow.domain false) (Rows.windowGroupsSpec.post enc Try.prog Try.f5 false true false false) := by
  refine returnsInHanded_of_change (C := Try.checked) own started (by kernel_rfl) Try.func5
    (ChangeSpec.witness6 (enc := enc) (C := Try.checked) false ⟨#[], #[.int .i64 0, .int .i64 0, .int .i64 0], []⟩ 8 (by kernel_rfl) (by kernel_rfl) (by kernel_rfl) (by kernel_rfl)) ?_
  intro W base args ds gs before hval0 hW hcnd _
  have hval : ∀ (j : Nat) t v, Try.f5.params[j]? = some t → args[j]? = some v → Value.okWide Try.prog W .any base t v := hval0
  have hW' := hW
  obtain ⟨p, q, hA0, hV, rfl, hfz, hnd⟩ := hW
  have hA : DataW.TrodAll enc Try.prog W 0 (fun _ => true) true Try.f5.params.toList args.toList ds p := hA0
  rw [Try.params5] at hA hval
  obtain ⟨v0, vs0, d0, ds0, p0, q0, hargs, rfl, rfl, h0, r0⟩ := trodAll_cons hA
  obtain ⟨v1, vs1, d1, ds1, p1, q1, rfl, rfl, rfl, h1, r1⟩ := trodAll_cons r0
  obtain ⟨v2, vs2, d2, ds2, p2, q2, rfl, rfl, rfl, h2, r2⟩ := trodAll_cons r1
  obtain ⟨rfl, rfl, rfl⟩ := trodAll_nil r2
  obtain rfl : args = #[v0, v1, v2] := by cases args; simp_all
  obtain ⟨rfl, rfl⟩ := trodVars_none hV
  obtain ⟨a0, rfl, rfl, rfl, w0⟩ := open_int Try.underlying3 (hval 0 3 v0 rfl rfl) h0
  obtain ⟨a1, rfl, rfl, rfl, w1⟩ := open_int Try.underlying3 (hval 1 3 v1 rfl rfl) h1
  obtain ⟨a2, rfl, rfl, rfl, w2⟩ := open_int Try.underlying3 (hval 2 3 v2 rfl rfl) h2
  clear hA0 hval0
  simp only [List.append_nil] at hW'
  refine (walk a0 a1 a2 w0 w1 w2 W).mono fun e W' ⟨he, hg⟩ => ?_
  subst he
  exact ⟨_, rfl, post_of_same (pa := []) (pv := []) hW' (fun _ _ _ => (trodAll_cons_mk (shut_bool Try.underlying4 _) trodAll_mk0)) (fun sp _ => (trodAll_cons_mk (shut_int Try.underlying3 w0) (trodAll_cons_mk (shut_int Try.underlying3 w1) (trodAll_cons_mk (shut_int Try.underlying3 w2) trodAll_mk0)))) (fun _ _ => rfl) rfl
    (hg.frame _) hg.2.1 (ok_one (by kernel_rfl) rfl (okWide_bool_mk Try.underlying4 _))⟩

theorem over : Rows.windowGroupsRow.holds Try.pinned (OpenSpec.ofChange Rows.windowGroupsSpec) :=
  OpenClaim.holds_of_wide 5 Try.f5 rfl rfl rfl rfl rfl rfl rfl ⟨rfl, rfl, rfl, rfl, rfl⟩ rfl rfl rfl rfl rfl (by kernel_rfl) Try.func5 (by kernel_rfl)
    (of_decide_eq_true (by kernel_rfl)) (by unfold Func.isWrapper; first | (rw [if_pos (by decide +kernel)]; kernel_rfl) | (rw [if_neg (by decide +kernel)]; exact ⟨rfl, rfl⟩))
    (fun os started H enc _ => lifted os started H enc)

/-- ████ THE STATEMENT ████ -/
theorem proved : Rows.WindowGroupsSaid :=
  over
#print axioms proved
end Go.Proofs.Ytcigmcbppombhaa.windowGroups
