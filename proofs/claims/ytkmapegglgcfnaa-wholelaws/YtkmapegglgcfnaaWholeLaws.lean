/- PROVED: for any two numbers of 64 bits, sums taken back, products divided and both roundings go as the law WholeLaws says; no condition. -/
import Derived.Test.YtkmapegglgcfnaaRows
import Derived.WalkKit
import Derived.ProofKit
import Derived.OpenShut
import Derived.ShutString
import Derived.Deep.DeepCutAuto
import Derived.Deep.CutBlock
import Derived.Deep.RegionWith
import Derived.StillTailTactics
import Derived.IntWalk
import Derived.Test.YtkmapegglgcfnaaLaws
namespace Go.Proofs.Ytkmapegglgcfnaa.wholeLaws
open Go.ChangeShapes Go.WideShapes Go.ChangeAt Go.RowKit
open Go.ChangeMaps (open_string shut_string)
set_option linter.unusedVariables false      -- a walk need not use every 'w<i>' (that an integer argument fits its kind)

theorem own : ownKnob Try.prog.godebug = none := by kernel_rfl

/-! ### STEP 1: THE WALK: the Go text returns true. 'Grown w w'': the world has at most new blocks (Derived/RowKit3.lean). Part the cases AHEAD of 'go_enter' where a test parts the walk; take each callee by a contract of your own. -/
set_option maxRecDepth 100000 in
set_option maxHeartbeats 8000000 in
theorem walk (a0 : Int) (a1 : Int) (w0 : (Lit.int .i64 a0).wf = true) (w1 : (Lit.int .i64 a1).wf = true) (w : World) :
    Calls Try.prog 6 #[.int .i64 a0, .int .i64 a1] w fun e w' => e = .returned (.bool true) ∧ Grown w w' := by
  obtain ⟨h0, h1⟩ := bounds_i64 w0
  obtain ⟨h2, h3⟩ := bounds_i64 w1
  clear w0 w1
  go_enter Try.func6, Try.ntmps6
  go_wp2_with fail
  refine (awake_true _).mono ?_
  rintro e w1 ⟨rfl, g1⟩
  go_wp2_with fail
  refine (add_any a0 a1 _ h0 h1 h2 h3).mono ?_
  rintro e w2 ⟨rfl, rfl⟩
  go_upto_region 4 with fail
  go_cut [32] (fun s32 wx => s32 = .bool (FitB (a0 + a1) && (a1 != -9223372036854775808)) ∧ w1 = wx)
  case first =>
    cases hB : FitB (a0 + a1)
    · obtain ⟨e1, e2⟩ := out_no hB
      clear e1
      have t1 : (outE (a0 + a1) == 0) = false := by rw [e2]; rfl
      clear e2
      go_wp2
      go_meet
      exact ⟨by rw [hB]; rfl, rfl⟩
    · obtain ⟨e1, e2⟩ := out_fit hB
      clear e1
      have t1 : (outE (a0 + a1) == 0) = true := by rw [e2]; rfl
      clear e2
      go_wp2
      go_meet
      exact ⟨by rw [hB]; rfl, rfl⟩
  case rest =>
    obtain ⟨rfl, rfl⟩ := hcut
    go_upto_if 32 with fail
    go_cut [5, 6, 7, 8] (fun s5 s6 s7 s8 wx => w1 = wx)
    case first =>
      cases hB : (FitB (a0 + a1) && (a1 != -9223372036854775808))
      · go_wp2
        go_meet
        rfl
      · have hB1 : FitB (a0 + a1) = true := by revert hB; cases FitB (a0 + a1) <;> simp
        have hB2 : a1 ≠ -9223372036854775808 := by intro h; rw [h] at hB; simp at hB
        obtain ⟨e1, e2⟩ := out_fit hB1
        have b1 : -9223372036854775807 ≤ a1 := by omega
        have b2 := (fitB_true hB1).1
        have b3 := (fitB_true hB1).2
        clear hB1 hB2 e2
        go_wp2_with fail
        refine (add_at (a0 + a1) (-a1) a0 _ (by omega) (by omega) (by omega) (by omega) (by omega) (by omega) (by omega)).mono ?_
        rintro e w2 ⟨rfl, rfl⟩
        go_wp2
        go_meet
        rfl
    case rest =>
      obtain rfl := hcut
      go_wp2_with fail
      refine (mul_any a0 a1 _ h0 h1 h2 h3).mono ?_
      rintro e w2 ⟨rfl, g2⟩
      go_upto_region 9 with fail
      go_cut [58] (fun s58 wx => s58 = .bool (FitB (a0 * a1) && (a1 != 0)) ∧ w2 = wx)
      case first =>
        cases hB : FitB (a0 * a1)
        · obtain ⟨e1, e2⟩ := out_no hB
          clear e1
          have t1 : (outE (a0 * a1) == 0) = false := by rw [e2]; rfl
          clear e2
          go_wp2
          go_meet
          exact ⟨by rw [hB]; rfl, rfl⟩
        · obtain ⟨e1, e2⟩ := out_fit hB
          clear e1
          have t1 : (outE (a0 * a1) == 0) = true := by rw [e2]; rfl
          clear e2
          go_wp2
          go_meet
          exact ⟨by rw [hB]; rfl, rfl⟩
      case rest =>
        obtain ⟨rfl, rfl⟩ := hcut
        go_upto_if 58 with fail
        go_cut [9, 10, 11, 12, 13, 14] (fun s9 s10 s11 s12 s13 s14 wx => Grown w2 wx)
        case first =>
          cases hB : (FitB (a0 * a1) && (a1 != 0))
          · go_wp2
            go_meet
            exact Grown.refl _
          · have hB1 : FitB (a0 * a1) = true := by revert hB; cases FitB (a0 * a1) <;> simp
            have hB2 : a1 ≠ 0 := by intro h; rw [h] at hB; simp at hB
            obtain ⟨e1, e2⟩ := out_fit hB1
            have b2 := (fitB_true hB1).1
            have b3 := (fitB_true hB1).2
            obtain ⟨f1, f2⟩ := back_flo (a := a0) hB2
            have hab : a0 * a1 ≠ -9223372036854775808 ∨ a1 ≠ -1 := by
              by_cases c : a1 = -1
              · left; subst c; omega
              · exact .inr c
            have F1 := Lib.hid f1
            have F2 := Lib.hid f2
            have HZ := Lib.hid hB2
            have HAB := Lib.hid hab
            clear hB1 hB2 e2 f1 f2 hab
            go_wp2_with fail
            refine (floor_at (a0 * a1) a1 a0 _ b2 b3 h2 h3 HZ.out HAB.out F1.out).mono ?_
            rintro e w3 ⟨rfl, g3⟩
            go_wp2_with fail
            refine (ceil_at (a0 * a1) a1 a0 _ b2 b3 h2 h3 HZ.out HAB.out F2.out).mono ?_
            rintro e w4 ⟨rfl, g4⟩
            go_wp2
            go_meet
            exact grown_trans g3 g4
        case rest =>
          have gg := grown_trans g1 (grown_trans g2 hcut)
          clear g1 g2 hcut
          by_cases c0 : a1 = 0
          · have d0 : (a1 == 0) = true := by simp [c0]
            clear c0
            go_wp2
            go_ret
            exact ⟨rfl, gg⟩
          have d0 : (a1 == 0) = false := by simp [c0]
          by_cases c1 : a0 = -9223372036854775808 ∧ a1 = -1
          · obtain ⟨rfl, rfl⟩ := c1
            go_wp2
            go_ret
            exact ⟨rfl, gg⟩
          have hab : a0 ≠ -9223372036854775808 ∨ a1 ≠ -1 := by omega
          have HZ := Lib.hid c0
          have HAB := Lib.hid hab
          have bd := tdiv_bd h0 h1 c0 hab
          have dz : ¬ a1 = 0 := c0
          have rb := rest_bd h0 h1 h2 h3 c0
          have tn : a0 = -9223372036854775808 → a1 ≠ -1 := by omega
          obtain ⟨w3, rfl⟩ : ∃ w3 : World, w3 = wc := ⟨_, rfl⟩
          go_upto_region 14 with fail
          go_cut [96] (fun s96 wx => s96 = .bool false ∧ w3 = wx)
          case first =>
            by_cases ca : a0 = -9223372036854775808
            · have d1 : (a0 == -9223372036854775808) = true := by simp [ca]
              have d2 : (a1 == -1) = false := by simp; exact tn ca
              clear ca tn
              go_wp2
              go_meet
              exact ⟨rfl, rfl⟩
            · have d1 : (a0 == -9223372036854775808) = false := by simp [ca]
              clear ca tn
              go_wp2
              go_meet
              exact ⟨rfl, rfl⟩
          case rest =>
            obtain ⟨rfl, rfl⟩ := hcut
            clear tn c1 hab d0
            by_cases hr : a0.tmod a1 = 0
            · have F1 : Hid (flo a0 a1 = a0.tdiv a1) := by show _ = _; unfold flo; rw [if_neg (by simp [hr])]
              have F2 : Hid (cei a0 a1 = a0.tdiv a1) := by show _ = _; unfold cei; rw [if_neg (by simp [hr])]
              clear c0
              go_wp2_with fail
              refine (floor_at _ _ (a0.tdiv a1) _ h0 h1 h2 h3 HZ.out HAB.out F1.out).mono ?_
              rintro e w6 ⟨rfl, g7⟩
              go_wp2_with fail
              refine (ceil_at _ _ (a0.tdiv a1) _ h0 h1 h2 h3 HZ.out HAB.out F2.out).mono ?_
              rintro e w7 ⟨rfl, g8⟩
              go_wp2_with fail
              go_still_tail 18, (by kernel_rfl)
              go_wp2_with fail
              refine (cross_at _ _ _ _ 0 _ h0 h1 h2 h3 h0 h1 h2 h3 (cmpI_eq rfl)).mono ?_
              rintro e w5 ⟨rfl, g5⟩
              go_wp2
              go_ret
              exact ⟨rfl, grown_trans gg (grown_trans g7 (grown_trans g8 (grown_trans (Grown.refl _).drew g5)))⟩
            · have tb := tdiv_rest_bd h0 h1 c0 hr
              obtain ⟨v, F1, F2, v0, v1⟩ := round_pair hr tb
              clear c0 tb bd
              rcases Int.lt_or_le (a0.tmod a1) 0 with s0 | s0
              · have wn : IntKind.i64.wrap (-a0.tmod a1) = -a0.tmod a1 := IntWalk.i64_in _ (by omega)
                have wv : IntKind.i64.wrap (v + 1 - v) = 1 := by rw [show v + 1 - v = 1 by omega]; rfl
                have l1 : (a0.tmod a1 < -a0.tmod a1) = True := eq_true (by omega)
                have l2 : (-a0.tmod a1 < 1) = False := eq_false (by omega)
                go_wp2_with fail
                refine (floor_at _ _ (v) _ h0 h1 h2 h3 HZ.out HAB.out F1.out).mono ?_
                rintro e w6 ⟨rfl, g7⟩
                go_wp2_with fail
                refine (ceil_at _ _ (v + 1) _ h0 h1 h2 h3 HZ.out HAB.out F2.out).mono ?_
                rintro e w7 ⟨rfl, g8⟩
                go_wp2_with fail
                go_still_tail 18, (by kernel_rfl)
                go_wp2_with fail
                refine (cross_at _ _ _ _ 0 _ h0 h1 h2 h3 h0 h1 h2 h3 (cmpI_eq rfl)).mono ?_
                rintro e w5 ⟨rfl, g5⟩
                go_wp2
                go_ret
                exact ⟨rfl, grown_trans gg (grown_trans g7 (grown_trans g8 (grown_trans (Grown.refl _).drew g5)))⟩
              · have wn : IntKind.i64.wrap (-a0.tmod a1) = -a0.tmod a1 := IntWalk.i64_in _ (by omega)
                have wv : IntKind.i64.wrap (v + 1 - v) = 1 := by rw [show v + 1 - v = 1 by omega]; rfl
                have l1 : (a0.tmod a1 < -a0.tmod a1) = False := eq_false (by omega)
                have l2 : (a0.tmod a1 < 1) = False := eq_false (by omega)
                go_wp2_with fail
                refine (floor_at _ _ (v) _ h0 h1 h2 h3 HZ.out HAB.out F1.out).mono ?_
                rintro e w6 ⟨rfl, g7⟩
                go_wp2_with fail
                refine (ceil_at _ _ (v + 1) _ h0 h1 h2 h3 HZ.out HAB.out F2.out).mono ?_
                rintro e w7 ⟨rfl, g8⟩
                go_wp2_with fail
                go_still_tail 18, (by kernel_rfl)
                go_wp2_with fail
                refine (cross_at _ _ _ _ 0 _ h0 h1 h2 h3 h0 h1 h2 h3 (cmpI_eq rfl)).mono ?_
                rintro e w5 ⟨rfl, g5⟩
                go_wp2
                go_ret
                exact ⟨rfl, grown_trans gg (grown_trans g7 (grown_trans g8 (grown_trans (Grown.refl _).drew g5)))⟩

/-! ### THE ROW's STEP: WRITTEN OUT: LEAVE IT -/
set_option maxRecDepth 100000 in
theorem lifted (os : Os) (started : os.Started) (H : Type) (enc : TypeId × Value → H) :
    ReturnsInHanded {} Try.checked os 6 .any (Rows.wholeLawsSpec.pre6 enc Try.prog Try.f6 Rows.wholeLawsRow.domain false) (Rows.wholeLawsSpec.post enc Try.prog Try.f6 false true false false) := by
  refine returnsInHanded_of_change (C := Try.checked) own started (by kernel_rfl) Try.func6
    (ChangeSpec.witness6 (enc := enc) (C := Try.checked) false ⟨#[], #[.int .i64 0, .int .i64 0], []⟩ 8 (by kernel_rfl) (by kernel_rfl) (by kernel_rfl) (by kernel_rfl)) ?_
  intro W base args ds gs before hval0 hW hcnd _
  have hval : ∀ (j : Nat) t v, Try.f6.params[j]? = some t → args[j]? = some v → Value.okWide Try.prog W .any base t v := hval0
  have hW' := hW
  obtain ⟨p, q, hA0, hV, rfl, hfz, hnd⟩ := hW
  have hA : DataW.TrodAll enc Try.prog W 0 (fun _ => true) true Try.f6.params.toList args.toList ds p := hA0
  rw [Try.params6] at hA hval
  obtain ⟨v0, vs0, d0, ds0, p0, q0, hargs, rfl, rfl, h0, r0⟩ := trodAll_cons hA
  obtain ⟨v1, vs1, d1, ds1, p1, q1, rfl, rfl, rfl, h1, r1⟩ := trodAll_cons r0
  obtain ⟨rfl, rfl, rfl⟩ := trodAll_nil r1
  obtain rfl : args = #[v0, v1] := by cases args; simp_all
  obtain ⟨rfl, rfl⟩ := trodVars_none hV
  obtain ⟨a0, rfl, rfl, rfl, w0⟩ := open_int Try.underlying2 (hval 0 2 v0 rfl rfl) h0
  obtain ⟨a1, rfl, rfl, rfl, w1⟩ := open_int Try.underlying2 (hval 1 2 v1 rfl rfl) h1
  clear hA0 hval0
  simp only [List.append_nil] at hW'
  refine (walk a0 a1 w0 w1 W).mono fun e W' ⟨he, hg⟩ => ?_
  subst he
  exact ⟨_, rfl, post_of_same (pa := []) (pv := []) hW' (fun _ _ _ => (trodAll_cons_mk (shut_bool Try.underlying4 _) trodAll_mk0)) (fun sp _ => (trodAll_cons_mk (shut_int Try.underlying2 w0) (trodAll_cons_mk (shut_int Try.underlying2 w1) trodAll_mk0))) (fun _ _ => rfl) rfl
    (hg.frame _) hg.2.1 (ok_one (by kernel_rfl) rfl (okWide_bool_mk Try.underlying4 _))⟩

theorem over : Rows.wholeLawsRow.holds Try.pinned (OpenSpec.ofChange Rows.wholeLawsSpec) :=
  OpenClaim.holds_of_wide 6 Try.f6 rfl rfl rfl rfl rfl rfl rfl ⟨rfl, rfl, rfl, rfl, rfl⟩ rfl rfl rfl rfl rfl (by kernel_rfl) Try.func6 (by kernel_rfl)
    (of_decide_eq_true (by kernel_rfl)) (by unfold Func.isWrapper; first | (rw [if_pos (by decide +kernel)]; kernel_rfl) | (rw [if_neg (by decide +kernel)]; exact ⟨rfl, rfl⟩))
    (fun os started H enc _ => lifted os started H enc)

/-- ████ THE STATEMENT ████ -/
theorem proved : Rows.WholeLawsSaid :=
  over
#print axioms proved
end Go.Proofs.Ytkmapegglgcfnaa.wholeLaws
