/- PROVED: all windows of a job of a period of at most 500 together cover its whole time, and no slot lies in more than two of them, as the law WindowCover says (longer periods are true by the law's own words); no condition. -/
import Derived.Test.YtcigmcbppombhaaRows
import Derived.WalkKit
import Derived.ProofKit
import Derived.OpenShut
import Derived.ShutString
import Derived.Test.YtcigmcbppombhaaV3
namespace Go.Proofs.Ytcigmcbppombhaa.windowCover
open Go.ChangeShapes Go.WideShapes Go.ChangeAt Go.RowKit
open Go.ChangeMaps (open_string shut_string)
set_option linter.unusedVariables false      -- a walk need not use every 'w<i>' (that an integer argument fits its kind)

theorem own : ownKnob Try.prog.godebug = none := by kernel_rfl

/-! ### STEP 1: THE WALK: the Go text returns true. 'Grown w w'': the world has at most new blocks (Derived/RowKit3.lean). Part the cases AHEAD of 'go_enter' where a test parts the walk; take each callee by a contract of your own. -/
set_option maxRecDepth 100000 in
set_option maxHeartbeats 8000000 in
theorem walk (a0 : Int) (a1 : Int) (w0 : (Lit.int .i64 a0).wf = true) (w1 : (Lit.int .i64 a1).wf = true) (w : World) :
    Calls Try.prog 9 #[.int .i64 a0, .int .i64 a1] w fun e w' => e = .returned (.bool true) ∧ Grown w w' := by
  clear w0 w1
  by_cases ht : Task a0 a1
  · have h1 := ht.e1; have h2 := ht.ep; have h3 := ht.pm
    by_cases c : 500 < a1
    · go_enter Try.func9, Try.ntmps9
      go_wp2_with fail
      refine (awake_true _).mono ?_
      rintro e w0 ⟨rfl, rfl⟩
      go_wp2_with fail
      refine (taskMay_yes _ _ _ ht).mono ?_
      rintro e w0 ⟨rfl, rfl⟩
      go_wp2
      go_ret
      exact ⟨rfl, Grown.refl _⟩
    · have c' : a1 ≤ 500 := by omega
      clear c
      obtain ⟨n, rfl⟩ := Int.eq_ofNat_of_zero_le (show 0 ≤ a1 by omega)
      have hmk := run_make_row' (P := Try.prog) 28 3 (.int .i64 0) 8 Try.underlying28 info3 rfl .i64 .i64 n (by omega) (by omega)
      go_enter Try.func9, Try.ntmps9
      go_wp2_with fail
      refine (awake_true _).mono ?_
      rintro e w0 ⟨rfl, rfl⟩
      go_wp2_with fail
      refine (taskMay_yes _ _ _ ht).mono ?_
      rintro e w0 ⟨rfl, rfl⟩
      go_wp2
      clear hmk
      go_loopg [6] (a0.toNat) (fun g i wr => Outer a0 n w g i wr)
      case atStart => exact ⟨1, _, rfl, by omega, by omega, by omega, CW.start w n, past_zero _ _ _ h1⟩
      case round =>
        obtain ⟨k, f, rfl, k1, k2, rfl, cw, past⟩ := hrel
        have CW0 := Lib.hid cw
        have PAST := Lib.hid past
        clear cw past
        by_cases hk : k ≤ a0
        · have hq : Quan a0 n k := ⟨ht, k1, hk⟩
          obtain ⟨r0, r1⟩ := rel_bd hq
          have r2 := rel_lt_dl hq
          obtain ⟨d0, d1⟩ := dl_bd hq
          obtain ⟨r, hr⟩ := Int.eq_ofNat_of_zero_le r0
          have HR := Lib.hid hr
          rw [hr] at r1 r2
          clear hr r0
          go_wp2_with fail
          refine (release_yes _ _ _ r _ hq HR.out).mono ?_
          rintro e w0 ⟨rfl, rfl⟩
          go_wp2
          go_loopg [7] (n - r) (fun g t wi => Inner a0 n k w g t wi)
          case atStart => exact ⟨r, f, rfl, by omega, rfl, CW0.out, by rw [← HR.out]; exact amid_start h1 PAST.out⟩
          case round =>
            clear CW0 PAST
            obtain ⟨u, f, rfl, u1, rfl, cw, am⟩ := hrel
            by_cases hu : (u : Int) < dl a0 n k
            · have un : u < n := by omega
              obtain ⟨v0, v1⟩ := amid_at am un
              have cc := cw.row.cell un
              have cf := cw.row.frozen u
              have CW1 := Lib.hid cw
              have AM := Lib.hid am
              clear cw am
              obtain ⟨v, hv⟩ : ∃ v, f u = v := ⟨_, rfl⟩
              simp only [hv] at cc
              rw [hv] at v0 v1
              have HV := Lib.hid hv
              clear hv
              have un' : (u : Int) < n := by omega
              have un2 : ¬ n ≤ u := by omega
              go_wp2_with fail
              refine (deadline_yes _ _ _ _ _ hq rfl).mono ?_
              rintro e w0 ⟨rfl, rfl⟩
              go_wp2
              go_roundg (n - (u + 1))
              case measure => omega
              case rel => exact ⟨u + 1, _, by go_num, by omega, rfl, by rw [← HV.out]; exact CW1.out.set u _, amid_step AM.out un⟩
            · have hu' : (u : Int) = dl a0 n k := by omega
              have PD : Hid (Past a0 n k n f) := amid_done ht (by rw [← hu']; exact am)
              have CW1 := Lib.hid cw
              clear cw am hu'
              go_wp2_with fail
              refine (deadline_yes _ _ _ _ _ hq rfl).mono ?_
              rintro e w0 ⟨rfl, rfl⟩
              go_wp2
              go_roundg ((a0 + 1 - (k + 1)).toNat)
              case measure => omega
              case rel => exact ⟨k + 1, f, rfl, by omega, by omega, rfl, CW1.out, by rw [show k + 1 - 1 = k by omega]; exact PD.out⟩
        · have hk' : a0 < k := by omega
          have P2 : Hid (Past a0 n a0 n f) := by have := PAST.out; rw [show k - 1 = a0 by omega] at this; exact this
          clear PAST hk
          go_wp2
          go_loopg [8] n (fun g t wi => Third n g t ∧ wi = wr)
          case atStart => exact ⟨⟨0, rfl, by omega, by omega⟩, rfl⟩
          case round =>
            obtain ⟨⟨u, rfl, u1, rfl⟩, rfl⟩ := hrel
            by_cases hu : u < n
            · obtain ⟨v0, v1⟩ := past_all h1 P2.out hu
              have cc := CW0.out.row.cell hu
              obtain ⟨v, hv⟩ : ∃ v, f u = v := ⟨_, rfl⟩
              simp only [hv] at cc
              rw [hv] at v0 v1
              clear hv
              have un' : (u : Int) < n := by omega
              go_wp2
              go_roundg (n - (u + 1))
              case measure => omega
              case rel => exact ⟨⟨u + 1, by go_num, by omega, rfl⟩, rfl⟩
            · go_wp2
              go_ret
              exact ⟨rfl, CW0.out.gr⟩
  · go_enter Try.func9, Try.ntmps9
    go_wp2_with fail
    refine (awake_true _).mono ?_
    rintro e w0 ⟨rfl, rfl⟩
    go_wp2_with fail
    refine (taskMay_no _ _ _ ht).mono ?_
    rintro e w0 ⟨rfl, rfl⟩
    go_wp2
    go_ret
    exact ⟨rfl, Grown.refl _⟩

/-! ### THE ROW's STEP: WRITTEN OUT: LEAVE IT -/
set_option maxRecDepth 100000 in
theorem lifted (os : Os) (started : os.Started) (H : Type) (enc : TypeId × Value → H) :
    ReturnsInHanded {} Try.checked os 9 .any (Rows.windowCoverSpec.pre6 enc Try.prog Try.f9 Rows.windowCoverRow.domain false) (Rows.windowCoverSpec.post enc Try.prog Try.f9 false true false false) := by
  refine returnsInHanded_of_change (C := Try.checked) own started (by kernel_rfl) Try.func9
    (ChangeSpec.witness6 (enc := enc) (C := Try.checked) false ⟨#[], #[.int .i64 0, .int .i64 0], []⟩ 8 (by kernel_rfl) (by kernel_rfl) (by kernel_rfl) (by kernel_rfl)) ?_
  intro W base args ds gs before hval0 hW hcnd _
  have hval : ∀ (j : Nat) t v, Try.f9.params[j]? = some t → args[j]? = some v → Value.okWide Try.prog W .any base t v := hval0
  have hW' := hW
  obtain ⟨p, q, hA0, hV, rfl, hfz, hnd⟩ := hW
  have hA : DataW.TrodAll enc Try.prog W 0 (fun _ => true) true Try.f9.params.toList args.toList ds p := hA0
  rw [Try.params9] at hA hval
  obtain ⟨v0, vs0, d0, ds0, p0, q0, hargs, rfl, rfl, h0, r0⟩ := trodAll_cons hA
  obtain ⟨v1, vs1, d1, ds1, p1, q1, rfl, rfl, rfl, h1, r1⟩ := trodAll_cons r0
  obtain ⟨rfl, rfl, rfl⟩ := trodAll_nil r1
  obtain rfl : args = #[v0, v1] := by cases args; simp_all
  obtain ⟨rfl, rfl⟩ := trodVars_none hV
  obtain ⟨a0, rfl, rfl, rfl, w0⟩ := open_int Try.underlying3 (hval 0 3 v0 rfl rfl) h0
  obtain ⟨a1, rfl, rfl, rfl, w1⟩ := open_int Try.underlying3 (hval 1 3 v1 rfl rfl) h1
  clear hA0 hval0
  simp only [List.append_nil] at hW'
  refine (walk a0 a1 w0 w1 W).mono fun e W' ⟨he, hg⟩ => ?_
  subst he
  exact ⟨_, rfl, post_of_same (pa := []) (pv := []) hW' (fun _ _ _ => (trodAll_cons_mk (shut_bool Try.underlying4 _) trodAll_mk0)) (fun sp _ => (trodAll_cons_mk (shut_int Try.underlying3 w0) (trodAll_cons_mk (shut_int Try.underlying3 w1) trodAll_mk0))) (fun _ _ => rfl) rfl
    (hg.frame _) hg.2.1 (ok_one (by kernel_rfl) rfl (okWide_bool_mk Try.underlying4 _))⟩

theorem over : Rows.windowCoverRow.holds Try.pinned (OpenSpec.ofChange Rows.windowCoverSpec) :=
  OpenClaim.holds_of_wide 9 Try.f9 rfl rfl rfl rfl rfl rfl rfl ⟨rfl, rfl, rfl, rfl, rfl⟩ rfl rfl rfl rfl rfl (by kernel_rfl) Try.func9 (by kernel_rfl)
    (of_decide_eq_true (by kernel_rfl)) (by unfold Func.isWrapper; first | (rw [if_pos (by decide +kernel)]; kernel_rfl) | (rw [if_neg (by decide +kernel)]; exact ⟨rfl, rfl⟩))
    (fun os started H enc _ => lifted os started H enc)

/-- ████ THE STATEMENT ████ -/
theorem proved : Rows.WindowCoverSaid :=
  over
#print axioms proved
end Go.Proofs.Ytcigmcbppombhaa.windowCover
