/- PROVED: as many times the quanta in as many times the period have the same releases, deadlines, bits and group deadlines, as the law WindowScales says; no condition. -/
import Derived.Test.YtcigmcbppombhaaRows
import Derived.WalkKit
import Derived.ProofKit
import Derived.OpenShut
import Derived.ShutString
import Derived.Test.YtcigmcbppombhaaL3
namespace Go.Proofs.Ytcigmcbppombhaa.windowScales
open Go.ChangeShapes Go.WideShapes Go.ChangeAt Go.RowKit
open Go.ChangeMaps (open_string shut_string)
set_option linter.unusedVariables false      -- a walk need not use every 'w<i>' (that an integer argument fits its kind)

theorem own : ownKnob Try.prog.godebug = none := by kernel_rfl

/-! ### STEP 1: THE WALK: the Go text returns true. 'Grown w w'': the world has at most new blocks (Derived/RowKit3.lean). Part the cases AHEAD of 'go_enter' where a test parts the walk; take each callee by a contract of your own. -/
set_option maxRecDepth 100000 in
set_option maxHeartbeats 8000000 in
theorem walk (a0 : Int) (a1 : Int) (a2 : Int) (w0 : (Lit.int .i64 a0).wf = true) (w1 : (Lit.int .i64 a1).wf = true) (w2 : (Lit.int .u8 a2).wf = true) (w : World) :
    Calls Try.prog 8 #[.int .i64 a0, .int .i64 a1, .int .u8 a2] w fun e w' => e = .returned (.bool true) ∧ Grown w w' := by
  obtain ⟨u0, u1⟩ := bounds_u8 w2
  clear w0 w1 w2
  have m0 := Int.emod_nonneg a2 (show (9 : Int) ≠ 0 by omega)
  have m1 := Int.emod_lt_of_pos a2 (show (0 : Int) < 9 by omega)
  obtain ⟨n, hn⟩ : ∃ n, 1 + a2 % 9 = n := ⟨_, rfl⟩
  have n1 : 1 ≤ n := by omega
  have n2 : n ≤ 9 := by omega
  by_cases ht : Task a0 a1
  · have h1 := ht.e1; have h2 := ht.ep; have h3 := ht.pm
    obtain ⟨p0, p1⟩ := mul_bd (a := a1) (b := n) (c := 1048575) (d := 9) (by omega) (by omega) (by omega) (by omega)
    obtain ⟨q0, q1⟩ := mul_bd (a := a0) (b := n) (c := 1048575) (d := 9) (by omega) (by omega) (by omega) (by omega)
    have qp : a0 * n ≤ a1 * n := Int.mul_le_mul_of_nonneg_right h2 (by omega)
    have qe : a0 * 1 ≤ a0 * n := Int.mul_le_mul_of_nonneg_left n1 (by omega)
    have qh : a1 ≤ 2 * a0 → a1 * n ≤ 2 * (a0 * n) := fun x => by have := Int.mul_le_mul_of_nonneg_right x (show 0 ≤ n by omega); rw [Int.mul_assoc] at this; exact this
    have ql : 2 * a0 < a1 → 2 * (a0 * n) < a1 * n := fun x => by have := Int.mul_lt_mul_of_pos_right x (show 0 < n by omega); rw [Int.mul_assoc] at this; exact this
    have qs : a0 < a1 → a0 * n < a1 * n := fun x => Int.mul_lt_mul_of_pos_right x (show 0 < n by omega)
    have qf : a0 = a1 → a0 * n = a1 * n := fun x => by rw [x]
    have sr := fun k => rel_scale (e := a0) (p := a1) (i := k) (n := n) (by omega) (by omega)
    have sd := fun k => dl_scale (e := a0) (p := a1) (i := k) (n := n) (by omega) (by omega)
    have sb := fun k => bt_scale (e := a0) (p := a1) (i := k) (n := n) (by omega) (by omega)
    have sg := fun (x : a0 < a1) k => gp_scale (e := a0) (p := a1) (i := k) (n := n) (by omega) x (by omega)
    obtain ⟨P, hP⟩ : ∃ P, a1 * n = P := ⟨_, rfl⟩
    obtain ⟨Q, hQ⟩ : ∃ Q, a0 * n = Q := ⟨_, rfl⟩
    rw [hP] at p0 p1
    rw [hQ] at q0 q1
    rw [hP, hQ] at qp qh ql qs qf sr sd sb sg
    rw [hQ] at qe
    have SR := Lib.hid sr
    have SD := Lib.hid sd
    have SB := Lib.hid sb
    have SG := Lib.hid sg
    have QF := Lib.hid qf
    have QH := Lib.hid qh
    have QL := Lib.hid ql
    have QS := Lib.hid qs
    clear sr sd sb sg qf qh ql qs
    by_cases c : 1048575 < P
    · go_enter Try.func8, Try.ntmps8
      go_wp2_with fail
      refine (awake_true _).mono ?_
      rintro e w0 ⟨rfl, rfl⟩
      go_wp2_with fail
      refine (taskMay_yes _ _ _ ht).mono ?_
      rintro e w0 ⟨rfl, rfl⟩
      go_wp2
      go_ret
      exact ⟨rfl, Grown.refl _⟩
    · have cP : P ≤ 1048575 := by omega
      clear c
      by_cases c : 2000 < a0
      · go_enter Try.func8, Try.ntmps8
        go_wp2_with fail
        refine (awake_true _).mono ?_
        rintro e w0 ⟨rfl, rfl⟩
        go_wp2_with fail
        refine (taskMay_yes _ _ _ ht).mono ?_
        rintro e w0 ⟨rfl, rfl⟩
        go_wp2
        go_ret
        exact ⟨rfl, Grown.refl _⟩
      · have c' : a0 ≤ 2000 := by omega
        clear c
        have ht2 : Task Q P := ⟨by omega, by omega, by omega⟩
        go_enter Try.func8, Try.ntmps8
        go_wp2_with fail
        refine (awake_true _).mono ?_
        rintro e w0 ⟨rfl, rfl⟩
        go_wp2_with fail
        refine (taskMay_yes _ _ _ ht).mono ?_
        rintro e w0 ⟨rfl, rfl⟩
        go_wp2
        go_loop [8] (fun i => Cnt a0 i) (fun i => (a0 + 1 - intOf i).toNat)
        case atStart => exact ⟨1, rfl, by omega, by omega⟩
        case round =>
          obtain ⟨k, rfl, k1, k2⟩ := hrel
          by_cases hk : k ≤ a0
          · have hq : Quan a0 a1 k := ⟨ht, k1, hk⟩
            have hq2 : Quan Q P k := ⟨ht2, k1, by omega⟩
            rcases Int.lt_or_le (2 * a0) a1 with cc | cc
            · have cc2 := QL.out cc
              go_wp2_with fail
              refine (release_yes _ _ _ _ _ hq2 (SR.out k)).mono ?_
              rintro e w0 ⟨rfl, rfl⟩
              go_wp2_with fail
              refine (release_yes _ _ _ _ _ hq rfl).mono ?_
              rintro e w0 ⟨rfl, rfl⟩
              go_wp2_with fail
              refine (deadline_yes _ _ _ _ _ hq2 (SD.out k)).mono ?_
              rintro e w0 ⟨rfl, rfl⟩
              go_wp2_with fail
              refine (deadline_yes _ _ _ _ _ hq rfl).mono ?_
              rintro e w0 ⟨rfl, rfl⟩
              go_wp2_with fail
              refine (bit_yes _ _ _ _ _ hq2 (SB.out k)).mono ?_
              rintro e w0 ⟨rfl, rfl⟩
              go_wp2_with fail
              refine (bit_yes _ _ _ _ _ hq rfl).mono ?_
              rintro e w0 ⟨rfl, rfl⟩
              go_wp2_with fail
              refine (group_no _ _ _ _ (.inr ⟨hq2, .inl cc2⟩)).mono ?_
              rintro e w0 ⟨rfl, rfl⟩
              go_wp2_with fail
              refine (group_no _ _ _ _ (.inr ⟨hq, .inl cc⟩)).mono ?_
              rintro e w0 ⟨rfl, rfl⟩
              go_wp2
              go_round
              case rel => exact ⟨k + 1, rfl, by omega, by omega⟩
              case measure => simp [intOf]; omega
            · have cc2 := QH.out cc
              rcases Int.lt_or_le a0 a1 with ce | ce
              · have ce2 := QS.out ce
                go_wp2_with fail
                refine (release_yes _ _ _ _ _ hq2 (SR.out k)).mono ?_
                rintro e w0 ⟨rfl, rfl⟩
                go_wp2_with fail
                refine (release_yes _ _ _ _ _ hq rfl).mono ?_
                rintro e w0 ⟨rfl, rfl⟩
                go_wp2_with fail
                refine (deadline_yes _ _ _ _ _ hq2 (SD.out k)).mono ?_
                rintro e w0 ⟨rfl, rfl⟩
                go_wp2_with fail
                refine (deadline_yes _ _ _ _ _ hq rfl).mono ?_
                rintro e w0 ⟨rfl, rfl⟩
                go_wp2_with fail
                refine (bit_yes _ _ _ _ _ hq2 (SB.out k)).mono ?_
                rintro e w0 ⟨rfl, rfl⟩
                go_wp2_with fail
                refine (bit_yes _ _ _ _ _ hq rfl).mono ?_
                rintro e w0 ⟨rfl, rfl⟩
                go_wp2_with fail
                refine (group_yes _ _ _ _ _ hq2 cc2 ce2 (SG.out ce k)).mono ?_
                rintro e w0 ⟨rfl, rfl⟩
                go_wp2_with fail
                refine (group_yes _ _ _ _ _ hq cc ce rfl).mono ?_
                rintro e w0 ⟨rfl, rfl⟩
                go_wp2
                go_round
                case rel => exact ⟨k + 1, rfl, by omega, by omega⟩
                case measure => simp [intOf]; omega
              · have ee : a0 = a1 := by omega
                have EE := Lib.hid ee
                clear ee
                go_wp2_with fail
                refine (release_yes _ _ _ _ _ hq2 (SR.out k)).mono ?_
                rintro e w0 ⟨rfl, rfl⟩
                go_wp2_with fail
                refine (release_yes _ _ _ _ _ hq rfl).mono ?_
                rintro e w0 ⟨rfl, rfl⟩
                go_wp2_with fail
                refine (deadline_yes _ _ _ _ _ hq2 (SD.out k)).mono ?_
                rintro e w0 ⟨rfl, rfl⟩
                go_wp2_with fail
                refine (deadline_yes _ _ _ _ _ hq rfl).mono ?_
                rintro e w0 ⟨rfl, rfl⟩
                go_wp2_with fail
                refine (bit_yes _ _ _ _ _ hq2 (SB.out k)).mono ?_
                rintro e w0 ⟨rfl, rfl⟩
                go_wp2_with fail
                refine (bit_yes _ _ _ _ _ hq rfl).mono ?_
                rintro e w0 ⟨rfl, rfl⟩
                go_wp2_with fail
                refine (group_no _ _ _ _ (.inr ⟨hq2, .inr (QF.out EE.out)⟩)).mono ?_
                rintro e w0 ⟨rfl, rfl⟩
                go_wp2_with fail
                refine (group_no _ _ _ _ (.inr ⟨hq, .inr EE.out⟩)).mono ?_
                rintro e w0 ⟨rfl, rfl⟩
                go_wp2
                go_round
                case rel => exact ⟨k + 1, rfl, by omega, by omega⟩
                case measure => simp [intOf]; omega
          · have hk' : a0 < k := by omega
            clear hk
            rcases Int.lt_or_le (2 * a0) a1 with cc | cc
            · have cc2 := QL.out cc
              go_wp2_with fail
              refine (heavy_no _ _ _ (.inr ⟨ht2, cc2⟩)).mono ?_
              rintro e w0 ⟨rfl, rfl⟩
              go_wp2_with fail
              refine (heavy_no _ _ _ (.inr ⟨ht, cc⟩)).mono ?_
              rintro e w0 ⟨rfl, rfl⟩
              go_wp2
              go_ret
              exact ⟨rfl, Grown.refl _⟩
            · have cc2 := QH.out cc
              go_wp2_with fail
              refine (heavy_yes _ _ _ ht2 cc2).mono ?_
              rintro e w0 ⟨rfl, rfl⟩
              go_wp2_with fail
              refine (heavy_yes _ _ _ ht cc).mono ?_
              rintro e w0 ⟨rfl, rfl⟩
              go_wp2
              go_ret
              exact ⟨rfl, Grown.refl _⟩
  · go_enter Try.func8, Try.ntmps8
    go_wp2_with fail
    refine (awake_true _).mono ?_
    rintro e w0 ⟨rfl, rfl⟩
    go_wp2_with fail
    refine (taskMay_no _ _ _ ht).mono ?_
    rintro e w0 ⟨rfl, rfl⟩
    go_wp2
    go_ret
    exact ⟨rfl, Grown.refl _⟩

/-! ### THE ROW's STEP: WRITTEN OUT: LEAVE IT -/
set_option maxRecDepth 100000 in
theorem lifted (os : Os) (started : os.Started) (H : Type) (enc : TypeId × Value → H) :
    ReturnsInHanded {} Try.checked os 8 .any (Rows.windowScalesSpec.pre6 enc Try.prog Try.f8 Rows.windowScalesRow.domain false) (Rows.windowScalesSpec.post enc Try.prog Try.f8 false true false false) := by
  refine returnsInHanded_of_change (C := Try.checked) own started (by kernel_rfl) Try.func8
    (ChangeSpec.witness6 (enc := enc) (C := Try.checked) false ⟨#[], #[.int .i64 0, .int .i64 0, .int .u8 0], []⟩ 8 (by kernel_rfl) (by kernel_rfl) (by kernel_rfl) (by kernel_rfl)) ?_
  intro W base args ds gs before hval0 hW hcnd _
  have hval : ∀ (j : Nat) t v, Try.f8.params[j]? = some t → args[j]? = some v → Value.okWide Try.prog W .any base t v := hval0
  have hW' := hW
  obtain ⟨p, q, hA0, hV, rfl, hfz, hnd⟩ := hW
  have hA : DataW.TrodAll enc Try.prog W 0 (fun _ => true) true Try.f8.params.toList args.toList ds p := hA0
  rw [Try.params8] at hA hval
  obtain ⟨v0, vs0, d0, ds0, p0, q0, hargs, rfl, rfl, h0, r0⟩ := trodAll_cons hA
  obtain ⟨v1, vs1, d1, ds1, p1, q1, rfl, rfl, rfl, h1, r1⟩ := trodAll_cons r0
  obtain ⟨v2, vs2, d2, ds2, p2, q2, rfl, rfl, rfl, h2, r2⟩ := trodAll_cons r1
  obtain ⟨rfl, rfl, rfl⟩ := trodAll_nil r2
  obtain rfl : args = #[v0, v1, v2] := by cases args; simp_all
  obtain ⟨rfl, rfl⟩ := trodVars_none hV
  obtain ⟨a0, rfl, rfl, rfl, w0⟩ := open_int Try.underlying3 (hval 0 3 v0 rfl rfl) h0
  obtain ⟨a1, rfl, rfl, rfl, w1⟩ := open_int Try.underlying3 (hval 1 3 v1 rfl rfl) h1
  obtain ⟨a2, rfl, rfl, rfl, w2⟩ := open_int Try.underlying5 (hval 2 5 v2 rfl rfl) h2
  clear hA0 hval0
  simp only [List.append_nil] at hW'
  refine (walk a0 a1 a2 w0 w1 w2 W).mono fun e W' ⟨he, hg⟩ => ?_
  subst he
  exact ⟨_, rfl, post_of_same (pa := []) (pv := []) hW' (fun _ _ _ => (trodAll_cons_mk (shut_bool Try.underlying4 _) trodAll_mk0)) (fun sp _ => (trodAll_cons_mk (shut_int Try.underlying3 w0) (trodAll_cons_mk (shut_int Try.underlying3 w1) (trodAll_cons_mk (shut_int Try.underlying5 w2) trodAll_mk0)))) (fun _ _ => rfl) rfl
    (hg.frame _) hg.2.1 (ok_one (by kernel_rfl) rfl (okWide_bool_mk Try.underlying4 _))⟩

theorem over : Rows.windowScalesRow.holds Try.pinned (OpenSpec.ofChange Rows.windowScalesSpec) :=
  OpenClaim.holds_of_wide 8 Try.f8 rfl rfl rfl rfl rfl rfl rfl ⟨rfl, rfl, rfl, rfl, rfl⟩ rfl rfl rfl rfl rfl (by kernel_rfl) Try.func8 (by kernel_rfl)
    (of_decide_eq_true (by kernel_rfl)) (by unfold Func.isWrapper; first | (rw [if_pos (by decide +kernel)]; kernel_rfl) | (rw [if_neg (by decide +kernel)]; exact ⟨rfl, rfl⟩))
    (fun os started H enc _ => lifted os started H enc)

/-- ████ THE STATEMENT ████ -/
theorem proved : Rows.WindowScalesSaid :=
  over
#print axioms proved
end Go.Proofs.Ytcigmcbppombhaa.windowScales
