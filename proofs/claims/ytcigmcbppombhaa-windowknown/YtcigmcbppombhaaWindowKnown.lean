/- PROVED: the windows by hand that the law WindowKnown lays out are what package window answers; no condition. -/
import Derived.Test.YtcigmcbppombhaaRows
import Derived.WalkKit
import Derived.ProofKit
import Derived.OpenShut
import Derived.ShutString
import Derived.Test.YtcigmcbppombhaaK3
namespace Go.Proofs.Ytcigmcbppombhaa.windowKnown
open Go.ChangeShapes Go.WideShapes Go.ChangeAt Go.RowKit
open Go.ChangeMaps (open_string shut_string)
set_option linter.unusedVariables false      -- a walk need not use every 'w<i>' (that an integer argument fits its kind)

theorem own : ownKnob Try.prog.godebug = none := by kernel_rfl

/-! ### STEP 1: THE WALK: the Go text returns true. 'Grown w w'': the world has at most new blocks (Derived/RowKit3.lean). Part the cases AHEAD of 'go_enter' where a test parts the walk; take each callee by a contract of your own. -/
set_option maxRecDepth 100000 in
set_option maxHeartbeats 8000000 in
theorem walk  (w : World) :
    Calls Try.prog 6 #[] w fun e w' => e = .returned (.bool true) ∧ Grown w w' := by
  have p1 : Quan 1 1 1 := ⟨⟨by omega, by omega, by omega⟩, by omega, by omega⟩
  have p2 : Quan 1 7 1 := ⟨⟨by omega, by omega, by omega⟩, by omega, by omega⟩
  have p3 : Task 1 2 := ⟨by omega, by omega, by omega⟩
  have p4 : Task 1 3 := ⟨by omega, by omega, by omega⟩
  have n1 : ¬ Quan 2 1 1 := fun h => by have := h.ep; omega
  have n2 : ¬ Quan 1 2 2 := fun h => by have := h.ie; omega
  have n3 : ¬ Quan 1 1048576 1 := fun h => by have := h.pm; omega
  have n4 : ¬ Quan 1 2 0 := fun h => by have := h.i1; omega
  go_enter Try.func6, Try.ntmps6
  go_wp2_with fail
  refine (awake_true _).mono ?_
  rintro e w0 ⟨rfl, rfl⟩
  go_wp2
  go_loopw [5] (fun i wr => Kn w i wr) (fun i _ => (8 - intOf i).toNat)
  case atStart => exact ⟨0, rfl, by omega, kw_start w⟩
  case round =>
    obtain ⟨k, rfl, k1, kw⟩ := hrel
    by_cases hk : k < 8
    · have hq : Quan 8 11 ((k : Int) + 1) := ⟨⟨by omega, by omega, by omega⟩, by omega, by omega⟩
      have cr := kw.r.cell hk
      have cd := kw.d.cell hk
      have cb := kw.b.cell hk
      have cg := kw.g.cell hk
      have KW := Lib.hid kw
      clear kw
      obtain ⟨r, hr⟩ : ∃ r, fr k = r := ⟨_, rfl⟩
      obtain ⟨d, hd⟩ : ∃ r, fd k = r := ⟨_, rfl⟩
      obtain ⟨b, hb⟩ : ∃ r, fb k = r := ⟨_, rfl⟩
      obtain ⟨g, hg⟩ : ∃ r, fg k = r := ⟨_, rfl⟩
      simp only [hr] at cr
      simp only [hd] at cd
      simp only [hb] at cb
      simp only [hg] at cg
      have HR := Lib.hid hr
      have HD := Lib.hid hd
      have HB := Lib.hid hb
      have HG := Lib.hid hg
      clear hr hd hb hg
      have e1 : IntKind.i64.wrap ((k : Int) + 1) = (k : Int) + 1 := IntWalk.i64_in _ (by omega)
      have e2 : (0 : Int) ≤ k := by omega
      have e3 : (k : Int) < 8 := by omega
      go_wp2
      go_quiet (first | (go_at_call 15; exact quiet_same (release_yes 8 11 _ r _ hq HR.out)) | (go_at_call 16; exact quiet_same (deadline_yes 8 11 _ d _ hq HD.out)) | (go_at_call 17; exact quiet_same (bit_yes 8 11 _ b _ hq HB.out)) | (go_at_call 18; exact quiet_same (group_yes 8 11 _ g _ hq (by omega) (by omega) HG.out)))
      go_wp2
      go_roundw
      case rel => exact ⟨k + 1, by go_num, by omega, KW.out.drewN _⟩
      case measure => simp [intOf]; omega
    · have hk' : (8 : Int) ≤ k := by omega
      have gr := kw.gr
      clear kw
      go_wp2_with fail
      refine (deadline_yes _ _ _ 1 _ p1 (by decide)).mono ?_
      rintro e w0 ⟨rfl, rfl⟩
      go_wp2_with fail
      refine (group_no _ _ _ _ (.inr ⟨p1, .inr rfl⟩)).mono ?_
      rintro e w0 ⟨rfl, rfl⟩
      go_wp2_with fail
      refine (heavy_yes _ _ _ p1.toTask (by omega)).mono ?_
      rintro e w0 ⟨rfl, rfl⟩
      go_wp2_with fail
      refine (heavy_yes _ _ _ p3 (by omega)).mono ?_
      rintro e w0 ⟨rfl, rfl⟩
      go_wp2_with fail
      refine (heavy_no _ _ _ (.inr ⟨p4, by omega⟩)).mono ?_
      rintro e w0 ⟨rfl, rfl⟩
      go_wp2_with fail
      refine (deadline_yes _ _ _ 7 _ p2 (by decide)).mono ?_
      rintro e w0 ⟨rfl, rfl⟩
      go_wp2_with fail
      refine (bit_yes _ _ _ 0 _ p2 (by decide)).mono ?_
      rintro e w0 ⟨rfl, rfl⟩
      go_wp2_with fail
      refine (may_no _ _ _ _ n1).mono ?_
      rintro e w0 ⟨rfl, rfl⟩
      go_wp2_with fail
      refine (may_no _ _ _ _ n2).mono ?_
      rintro e w0 ⟨rfl, rfl⟩
      go_wp2_with fail
      refine (may_no _ _ _ _ n3).mono ?_
      rintro e w0 ⟨rfl, rfl⟩
      go_wp2_with fail
      refine (deadline_no _ _ _ _ n4).mono ?_
      rintro e w0 ⟨rfl, rfl⟩
      go_wp2
      go_ret
      exact ⟨rfl, gr⟩

/-! ### THE ROW's STEP: WRITTEN OUT: LEAVE IT -/
set_option maxRecDepth 100000 in
theorem lifted (os : Os) (started : os.Started) (H : Type) (enc : TypeId × Value → H) :
    ReturnsInHanded {} Try.checked os 6 .any (Rows.windowKnownSpec.pre6 enc Try.prog Try.f6 Rows.windowKnownRow.domain false) (Rows.windowKnownSpec.post enc Try.prog Try.f6 false true false false) := by
  refine returnsInHanded_of_change (C := Try.checked) own started (by kernel_rfl) Try.func6
    (ChangeSpec.witness6 (enc := enc) (C := Try.checked) false ⟨#[], #[], []⟩ 8 (by kernel_rfl) (by kernel_rfl) (by kernel_rfl) (by kernel_rfl)) ?_
  intro W base args ds gs before hval0 hW hcnd _
  have hval : ∀ (j : Nat) t v, Try.f6.params[j]? = some t → args[j]? = some v → Value.okWide Try.prog W .any base t v := hval0
  have hW' := hW
  obtain ⟨p, q, hA0, hV, rfl, hfz, hnd⟩ := hW
  have hA : DataW.TrodAll enc Try.prog W 0 (fun _ => true) true Try.f6.params.toList args.toList ds p := hA0
  rw [Try.params6] at hA hval
  obtain ⟨rfl, rfl, rfl⟩ := trodAll_none hA
  obtain ⟨rfl, rfl⟩ := trodVars_none hV
  clear hA0 hval0
  simp only [List.append_nil] at hW'
  refine (walk  W).mono fun e W' ⟨he, hg⟩ => ?_
  subst he
  exact ⟨_, rfl, post_of_same (pa := []) (pv := []) hW' (fun _ _ _ => (trodAll_cons_mk (shut_bool Try.underlying4 _) trodAll_mk0)) (fun sp _ => rfl) (fun _ _ => rfl) rfl
    (hg.frame _) hg.2.1 (ok_one (by kernel_rfl) rfl (okWide_bool_mk Try.underlying4 _))⟩

theorem over : Rows.windowKnownRow.holds Try.pinned (OpenSpec.ofChange Rows.windowKnownSpec) :=
  OpenClaim.holds_of_wide 6 Try.f6 rfl rfl rfl rfl rfl rfl rfl ⟨rfl, rfl, rfl, rfl, rfl⟩ rfl rfl rfl rfl rfl (by kernel_rfl) Try.func6 (by kernel_rfl)
    (of_decide_eq_true (by kernel_rfl)) (by unfold Func.isWrapper; first | (rw [if_pos (by decide +kernel)]; kernel_rfl) | (rw [if_neg (by decide +kernel)]; exact ⟨rfl, rfl⟩))
    (fun os started H enc _ => lifted os started H enc)

/-- ████ THE STATEMENT ████ -/
theorem proved : Rows.WindowKnownSaid :=
  over
#print axioms proved
end Go.Proofs.Ytcigmcbppombhaa.windowKnown
