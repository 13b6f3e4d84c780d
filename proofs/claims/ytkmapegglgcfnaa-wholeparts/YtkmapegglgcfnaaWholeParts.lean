/- PROVED: for any two numbers of 64 bits, what divides both, what both divide, and the quotients rounded down and up are as the law WholeParts says; no condition. -/
import Derived.Test.YtkmapegglgcfnaaRows
import Derived.WalkKit
import Derived.ProofKit
import Derived.OpenShut
import Derived.ShutString
import Derived.Deep.DeepCutAuto
import Derived.Deep.CutBlock
import Derived.Test.YtkmapegglgcfnaaParts
namespace Go.Proofs.Ytkmapegglgcfnaa.wholeParts
open Go.ChangeShapes Go.WideShapes Go.ChangeAt Go.RowKit
open Go.ChangeMaps (open_string shut_string)
set_option linter.unusedVariables false      -- a walk need not use every 'w<i>' (that an integer argument fits its kind)

theorem own : ownKnob Try.prog.godebug = none := by kernel_rfl

/-! ### STEP 1: THE WALK: the Go text returns true. 'Grown w w'': the world has at most new blocks (Derived/RowKit3.lean). Part the cases AHEAD of 'go_enter' where a test parts the walk; take each callee by a contract of your own. -/
set_option maxRecDepth 100000 in
set_option maxHeartbeats 4000000 in
theorem walk (a0 : Int) (a1 : Int) (w0 : (Lit.int .i64 a0).wf = true) (w1 : (Lit.int .i64 a1).wf = true) (w : World) :
    Calls Try.prog 4 #[.int .i64 a0, .int .i64 a1] w fun e w' => e = .returned (.bool true) ∧ Grown w w' := by
  obtain ⟨h0, h1⟩ := bounds_i64 w0
  obtain ⟨h2, h3⟩ := bounds_i64 w1
  clear w0 w1
  obtain ⟨hg0, hg1⟩ := gcdV_bd a0 a1
  have hgn : decide (gcdV a0 a1 < 0) = false := by simp; omega
  go_enter Try.func4, Try.ntmps4
  go_wp2_with fail
  refine (awake_true _).mono ?_
  rintro e w1 ⟨rfl, g1⟩
  go_wp2_with fail
  refine (gcd_at a0 a1 (gcdV a0 a1) _ h0 h1 h2 h3 rfl).mono ?_
  rintro e w2 ⟨rfl, g2⟩
  go_upto_region 4 with fail
  go_cut [35] (fun s35 wx => s35 = .bool false ∧ Grown w2 wx)
  case first =>
    by_cases c0 : a0 = -9223372036854775808
    · have d0 : (a0 != -9223372036854775808) = false := by simp [c0]
      clear c0
      go_wp2
      go_meet
      exact ⟨rfl, Grown.refl _⟩
    have d0 : (a0 != -9223372036854775808) = true := by simp [c0]
    by_cases c1 : a1 = -9223372036854775808
    · have d1 : (a1 != -9223372036854775808) = false := by simp [c1]
      clear c0 c1
      go_wp2
      go_meet
      exact ⟨rfl, Grown.refl _⟩
    have d1 : (a1 != -9223372036854775808) = true := by simp [c1]
    have b0 : -9223372036854775807 ≤ a0 := by omega
    have b1 : -9223372036854775807 ≤ a1 := by omega
    clear c0 c1
    go_wp2_with fail
    refine (rgcd_any _ _ _ b0 h1 b1 h3).mono ?_
    rintro e w3 ⟨rfl, g3⟩
    go_wp2
    go_meet
    exact ⟨rfl, g3⟩
  case rest =>
    obtain ⟨rfl, g3⟩ := hcut
    obtain ⟨w3, rfl⟩ : ∃ w3 : World, w3 = wc := ⟨_, rfl⟩
    go_upto_region 6 with fail
    go_cut [53] (fun s53 wx => s53 = .bool false ∧ Grown w3 wx)
    case first =>
      by_cases c : 0 < gcdV a0 a1
      · have cp : decide (0 < gcdV a0 a1) = true := by simp [c]
        obtain ⟨r0, r1⟩ := gcdV_dvd c
        have q0 : (a0.tmod (gcdV a0 a1) != 0) = false := by simp [r0]
        have q1 : (a1.tmod (gcdV a0 a1) != 0) = false := by simp [r1]
        clear r0 r1
        go_wp2
        go_meet
        exact ⟨rfl, Grown.refl _⟩
      · have cp : decide (0 < gcdV a0 a1) = false := by simp; omega
        go_wp2
        go_meet
        exact ⟨rfl, Grown.refl _⟩
    case rest =>
      obtain ⟨rfl, g4⟩ := hcut
      obtain ⟨w4, rfl⟩ : ∃ w4 : World, w4 = wc := ⟨_, rfl⟩
      go_wp2_with fail
      refine (lcm_any _ _ _ h1 h3).mono ?_
      rintro e w5 ⟨rfl, g5⟩
      go_upto_block 0 with fail
      go_cut [6, 7] (fun s6 s7 wx => Grown w5 wx)
      case first =>
        by_cases c0 : a0 < 1
        · obtain ⟨e1, e2⟩ := lcm_none (a := a0) (b := a1) (.inl c0)
          have d0 : decide (a0 < 1) = true := by simp [c0]
          go_wp2
          go_meet
          exact Grown.refl _
        have d0 : decide (a0 < 1) = false := by simp [c0]
        by_cases c1 : a1 < 1
        · obtain ⟨e1, e2⟩ := lcm_none (a := a0) (b := a1) (.inr c1)
          have d1 : decide (a1 < 1) = true := by simp [c1]
          go_wp2
          go_meet
          exact Grown.refl _
        have d1 : decide (a1 < 1) = false := by simp [c1]
        have hn : ¬ (a0 < 1 ∨ a1 < 1) := by omega
        obtain ⟨-, k1, k2⟩ := gcd_pos_bd (b := a1) (show 1 ≤ a0 by omega) h1
        obtain ⟨q0, q1⟩ := quo_bd (show 1 ≤ a0 by omega) k1
        rcases fit_em (a0 / gcdV a0 a1 * a1) with hf | hf
        · obtain ⟨e1, e2⟩ := lcm_fit hn hf
          have HF := Lib.hid hf
          clear hn hf
          go_wp2_with fail
          refine (rmul_ok _ _ _ (by omega) (by omega) (by omega) h3 HF.out).mono ?_
          rintro e w6 ⟨rfl, rfl⟩
          go_wp2
          go_meet
          exact Grown.refl _
        · obtain ⟨e1, e2⟩ := lcm_unfit hn hf
          have HF := Lib.hid hf
          clear hn hf
          go_wp2_with fail
          refine (rmul_no _ _ _ (by omega) (by omega) (by omega) h3 HF.out).mono ?_
          rintro e w6 ⟨rfl, rfl⟩
          go_wp2
          go_meet
          exact Grown.refl _
      case rest =>
        have g6 := hcut
        clear hcut
        have gg := grown_trans g1 (grown_trans g2 (grown_trans g3 (grown_trans g4 (grown_trans g5 g6))))
        clear g1 g2 g3 g4 g5 g6
        by_cases c0 : a1 = 0
        · subst c0
          go_wp2_with fail
          refine (floor_zero _ _).mono ?_
          rintro e w6 ⟨rfl, rfl⟩
          go_wp2_with fail
          refine (ceil_zero _ _).mono ?_
          rintro e w7 ⟨rfl, rfl⟩
          go_wp2
          go_ret
          exact ⟨rfl, gg⟩
        have d0 : (a1 == 0) = false := by simp [c0]
        by_cases c1 : a0 = -9223372036854775808 ∧ a1 = -1
        · obtain ⟨rfl, rfl⟩ := c1
          go_wp2_with fail
          refine (floor_over _).mono ?_
          rintro e w6 ⟨rfl, rfl⟩
          go_wp2_with fail
          refine (ceil_over _).mono ?_
          rintro e w7 ⟨rfl, rfl⟩
          go_wp2
          go_ret
          exact ⟨rfl, gg⟩
        have hab : a0 ≠ -9223372036854775808 ∨ a1 ≠ -1 := by omega
        have hnz := Lib.hid c0
        have HAB := Lib.hid hab
        have bd := tdiv_bd h0 h1 c0 hab
        have tn : ((a0 == -9223372036854775808) && (a1 == -1)) = false := by simp; omega
        have dz : ¬ a1 = 0 := c0
        by_cases hr : a0.tmod a1 = 0
        · have F1 : Hid (flo a0 a1 = a0.tdiv a1) := by show _ = _; unfold flo; rw [if_neg (by simp [hr])]
          have F2 : Hid (cei a0 a1 = a0.tdiv a1) := by show _ = _; unfold cei; rw [if_neg (by simp [hr])]
          have r0 : (a0.tmod a1 != 0) = false := by simp [hr]
          clear hr c0 c1 hab
          by_cases ca : a0 = -9223372036854775808
          · have d1 : (a0 == -9223372036854775808) = true := by simp [ca]
            have d2 : (a1 == -1) = false := by simp; have := HAB.out; omega
            clear ca tn
            go_wp2_with fail
            refine (floor_at _ _ (a0.tdiv a1) _ h0 h1 h2 h3 hnz.out HAB.out F1.out).mono ?_
            rintro e w6 ⟨rfl, g7⟩
            go_wp2_with fail
            refine (ceil_at _ _ (a0.tdiv a1) _ h0 h1 h2 h3 hnz.out HAB.out F2.out).mono ?_
            rintro e w7 ⟨rfl, g8⟩
            go_wp2
            all_goals
              go_ret
              exact ⟨rfl, grown_trans gg (grown_trans g7 g8)⟩
          · have d1 : (a0 == -9223372036854775808) = false := by simp [ca]
            clear ca tn
            go_wp2_with fail
            refine (floor_at _ _ (a0.tdiv a1) _ h0 h1 h2 h3 hnz.out HAB.out F1.out).mono ?_
            rintro e w6 ⟨rfl, g7⟩
            go_wp2_with fail
            refine (ceil_at _ _ (a0.tdiv a1) _ h0 h1 h2 h3 hnz.out HAB.out F2.out).mono ?_
            rintro e w7 ⟨rfl, g8⟩
            go_wp2
            all_goals
              go_ret
              exact ⟨rfl, grown_trans gg (grown_trans g7 g8)⟩
        have r0 : (a0.tmod a1 != 0) = true := by simp [hr]
        have rs := rest_sign hr
        have rb := tdiv_rest_bd h0 h1 c0 hr
        by_cases s0 : a0 < 0 <;> by_cases s1 : a1 < 0
        · have F1 : Hid (flo a0 a1 = a0.tdiv a1) := by show _ = _; unfold flo; rw [if_neg (by simp [s0, s1])]
          have F2 : Hid (cei a0 a1 = a0.tdiv a1 + 1) := by show _ = _; unfold cei; rw [if_pos ⟨hr, by simp [s0, s1]⟩]
          have e0 : decide (a0.tmod a1 < 0) = true := by rw [rs]; simp [s0]
          have e1 : decide (a1 < 0) = true := by simp [s1]
          clear hr c0 c1 hab rs
          by_cases ca : a0 = -9223372036854775808
          · have d1 : (a0 == -9223372036854775808) = true := by simp [ca]
            have d2 : (a1 == -1) = false := by simp; have := HAB.out; omega
            clear ca tn
            go_wp2_with fail
            refine (floor_at _ _ (a0.tdiv a1) _ h0 h1 h2 h3 hnz.out HAB.out F1.out).mono ?_
            rintro e w6 ⟨rfl, g7⟩
            go_wp2_with fail
            refine (ceil_at _ _ (a0.tdiv a1 + 1) _ h0 h1 h2 h3 hnz.out HAB.out F2.out).mono ?_
            rintro e w7 ⟨rfl, g8⟩
            go_wp2
            all_goals
              go_ret
              exact ⟨rfl, grown_trans gg (grown_trans g7 g8)⟩
          · have d1 : (a0 == -9223372036854775808) = false := by simp [ca]
            clear ca tn
            go_wp2_with fail
            refine (floor_at _ _ (a0.tdiv a1) _ h0 h1 h2 h3 hnz.out HAB.out F1.out).mono ?_
            rintro e w6 ⟨rfl, g7⟩
            go_wp2_with fail
            refine (ceil_at _ _ (a0.tdiv a1 + 1) _ h0 h1 h2 h3 hnz.out HAB.out F2.out).mono ?_
            rintro e w7 ⟨rfl, g8⟩
            go_wp2
            all_goals
              go_ret
              exact ⟨rfl, grown_trans gg (grown_trans g7 g8)⟩
        · have F1 : Hid (flo a0 a1 = a0.tdiv a1 - 1) := by show _ = _; unfold flo; rw [if_pos ⟨hr, by simp [s0, s1]⟩]
          have F2 : Hid (cei a0 a1 = a0.tdiv a1) := by show _ = _; unfold cei; rw [if_neg (by simp [s0, s1])]
          have e0 : decide (a0.tmod a1 < 0) = true := by rw [rs]; simp [s0]
          have e1 : decide (a1 < 0) = false := by simp [s1]
          clear hr c0 c1 hab rs
          by_cases ca : a0 = -9223372036854775808
          · have d1 : (a0 == -9223372036854775808) = true := by simp [ca]
            have d2 : (a1 == -1) = false := by simp; have := HAB.out; omega
            clear ca tn
            go_wp2_with fail
            refine (floor_at _ _ (a0.tdiv a1 - 1) _ h0 h1 h2 h3 hnz.out HAB.out F1.out).mono ?_
            rintro e w6 ⟨rfl, g7⟩
            go_wp2_with fail
            refine (ceil_at _ _ (a0.tdiv a1) _ h0 h1 h2 h3 hnz.out HAB.out F2.out).mono ?_
            rintro e w7 ⟨rfl, g8⟩
            go_wp2
            all_goals
              go_ret
              exact ⟨rfl, grown_trans gg (grown_trans g7 g8)⟩
          · have d1 : (a0 == -9223372036854775808) = false := by simp [ca]
            clear ca tn
            go_wp2_with fail
            refine (floor_at _ _ (a0.tdiv a1 - 1) _ h0 h1 h2 h3 hnz.out HAB.out F1.out).mono ?_
            rintro e w6 ⟨rfl, g7⟩
            go_wp2_with fail
            refine (ceil_at _ _ (a0.tdiv a1) _ h0 h1 h2 h3 hnz.out HAB.out F2.out).mono ?_
            rintro e w7 ⟨rfl, g8⟩
            go_wp2
            all_goals
              go_ret
              exact ⟨rfl, grown_trans gg (grown_trans g7 g8)⟩
        · have F1 : Hid (flo a0 a1 = a0.tdiv a1 - 1) := by show _ = _; unfold flo; rw [if_pos ⟨hr, by simp [s0, s1]⟩]
          have F2 : Hid (cei a0 a1 = a0.tdiv a1) := by show _ = _; unfold cei; rw [if_neg (by simp [s0, s1])]
          have e0 : decide (a0.tmod a1 < 0) = false := by rw [rs]; simp [s0]
          have e1 : decide (a1 < 0) = true := by simp [s1]
          have em : a0.tmod a1 = a0 % a1 := Int.tmod_eq_emod_of_nonneg (by omega)
          have r2 : (a0 % a1 != 0) = true := by rw [← em]; exact r0
          have e2 : decide (a0 % a1 < 0) = false := by rw [← em]; exact e0
          clear em
          clear hr c0 c1 hab rs
          by_cases ca : a0 = -9223372036854775808
          · exfalso; omega
          · have d1 : (a0 == -9223372036854775808) = false := by simp [ca]
            clear ca tn
            go_wp2_with fail
            refine (floor_at _ _ (a0.tdiv a1 - 1) _ h0 h1 h2 h3 hnz.out HAB.out F1.out).mono ?_
            rintro e w6 ⟨rfl, g7⟩
            go_wp2_with fail
            refine (ceil_at _ _ (a0.tdiv a1) _ h0 h1 h2 h3 hnz.out HAB.out F2.out).mono ?_
            rintro e w7 ⟨rfl, g8⟩
            go_wp2
            all_goals
              go_ret
              exact ⟨rfl, grown_trans gg (grown_trans g7 g8)⟩
        · have F1 : Hid (flo a0 a1 = a0.tdiv a1) := by show _ = _; unfold flo; rw [if_neg (by simp [s0, s1])]
          have F2 : Hid (cei a0 a1 = a0.tdiv a1 + 1) := by show _ = _; unfold cei; rw [if_pos ⟨hr, by simp [s0, s1]⟩]
          have e0 : decide (a0.tmod a1 < 0) = false := by rw [rs]; simp [s0]
          have e1 : decide (a1 < 0) = false := by simp [s1]
          have em : a0.tmod a1 = a0 % a1 := Int.tmod_eq_emod_of_nonneg (by omega)
          have r2 : (a0 % a1 != 0) = true := by rw [← em]; exact r0
          have e2 : decide (a0 % a1 < 0) = false := by rw [← em]; exact e0
          clear em
          clear hr c0 c1 hab rs
          by_cases ca : a0 = -9223372036854775808
          · exfalso; omega
          · have d1 : (a0 == -9223372036854775808) = false := by simp [ca]
            clear ca tn
            go_wp2_with fail
            refine (floor_at _ _ (a0.tdiv a1) _ h0 h1 h2 h3 hnz.out HAB.out F1.out).mono ?_
            rintro e w6 ⟨rfl, g7⟩
            go_wp2_with fail
            refine (ceil_at _ _ (a0.tdiv a1 + 1) _ h0 h1 h2 h3 hnz.out HAB.out F2.out).mono ?_
            rintro e w7 ⟨rfl, g8⟩
            go_wp2
            all_goals
              go_ret
              exact ⟨rfl, grown_trans gg (grown_trans g7 g8)⟩

/-! ### THE ROW's STEP: WRITTEN OUT: LEAVE IT -/
set_option maxRecDepth 100000 in
theorem lifted (os : Os) (started : os.Started) (H : Type) (enc : TypeId × Value → H) :
    ReturnsInHanded {} Try.checked os 4 .any (Rows.wholePartsSpec.pre6 enc Try.prog Try.f4 Rows.wholePartsRow.domain false) (Rows.wholePartsSpec.post enc Try.prog Try.f4 false true false false) := by
  refine returnsInHanded_of_change (C := Try.checked) own started (by kernel_rfl) Try.func4
    (ChangeSpec.witness6 (enc := enc) (C := Try.checked) false ⟨#[], #[.int .i64 0, .int .i64 0], []⟩ 8 (by kernel_rfl) (by kernel_rfl) (by kernel_rfl) (by kernel_rfl)) ?_
  intro W base args ds gs before hval0 hW hcnd _
  have hval : ∀ (j : Nat) t v, Try.f4.params[j]? = some t → args[j]? = some v → Value.okWide Try.prog W .any base t v := hval0
  have hW' := hW
  obtain ⟨p, q, hA0, hV, rfl, hfz, hnd⟩ := hW
  have hA : DataW.TrodAll enc Try.prog W 0 (fun _ => true) true Try.f4.params.toList args.toList ds p := hA0
  rw [Try.params4] at hA hval
  obtain ⟨v0, vs0, d0, ds0, p0, q0, hargs, rfl, rfl, h0, r0⟩ := trodAll_cons hA
  obtain ⟨v1, vs1, d1, ds1, p1, q1, rfl, rfl, rfl, h1, r1⟩ := trodAll_cons r0
  obtain ⟨rfl, rfl, rfl⟩ := trodAll_nil r1
  obtain rfl : args = #[v0, v1] := by cases args; simp_all
  obtain ⟨rfl, rfl⟩ := trodVars_none hV
  obtain ⟨a0, rfl, rfl, rfl, w0⟩ := open_int Try.underlying2 (hval 0 2 v0 rfl rfl) h0
  obtain ⟨a1, rfl, rfl, rfl, w1⟩ := open_int Try.underlying2 (hval 1 2 v1 rfl rfl) h1
  clear hA0 hval0
  simp only [List.append_nil] at hW'
  refine (walk a0 a1 w0 w1 W).mono fun e W' ⟨he, hg⟩ => ?_
  subst he
  exact ⟨_, rfl, post_of_same (pa := []) (pv := []) hW' (fun _ _ _ => (trodAll_cons_mk (shut_bool Try.underlying4 _) trodAll_mk0)) (fun sp _ => (trodAll_cons_mk (shut_int Try.underlying2 w0) (trodAll_cons_mk (shut_int Try.underlying2 w1) trodAll_mk0))) (fun _ _ => rfl) rfl
    (hg.frame _) hg.2.1 (ok_one (by kernel_rfl) rfl (okWide_bool_mk Try.underlying4 _))⟩

theorem over : Rows.wholePartsRow.holds Try.pinned (OpenSpec.ofChange Rows.wholePartsSpec) :=
  OpenClaim.holds_of_wide 4 Try.f4 rfl rfl rfl rfl rfl rfl rfl ⟨rfl, rfl, rfl, rfl, rfl⟩ rfl rfl rfl rfl rfl (by kernel_rfl) Try.func4 (by kernel_rfl)
    (of_decide_eq_true (by kernel_rfl)) (by unfold Func.isWrapper; first | (rw [if_pos (by decide +kernel)]; kernel_rfl) | (rw [if_neg (by decide +kernel)]; exact ⟨rfl, rfl⟩))
    (fun os started H enc _ => lifted os started H enc)

/-- ████ THE STATEMENT ████ -/
theorem proved : Rows.WholePartsSaid :=
  over
#print axioms proved
end Go.Proofs.Ytkmapegglgcfnaa.wholeParts
