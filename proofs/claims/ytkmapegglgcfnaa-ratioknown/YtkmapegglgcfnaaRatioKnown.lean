/- PROVED: the law RatioKnown answers true: fractions by hand, what may not be, what would run over; it has no input, no condition. -/
import Derived.Test.YtkmapegglgcfnaaRows
import Derived.WalkKit
import Derived.ProofKit
import Derived.OpenShut
import Derived.ShutString
import Derived.Deep.DeepCutAuto
import Derived.Deep.RegionHeld3
import Derived.LoopTactic
import Derived.Test.YtkmapegglgcfnaaR12
namespace Go.Proofs.Ytkmapegglgcfnaa.ratioKnown
open Go.ChangeShapes Go.WideShapes Go.ChangeAt Go.RowKit
open Go.ChangeMaps (open_string shut_string)
set_option linter.unusedVariables false      -- a walk need not use every 'w<i>' (that an integer argument fits its kind)

theorem own : ownKnob Try.prog.godebug = none := by kernel_rfl

/-! ### STEP 1: THE WALK: the Go text returns true. 'Grown w w'': the world has at most new blocks (Derived/RowKit3.lean). Part the cases AHEAD of 'go_enter' where a test parts the walk; take each callee by a contract of your own. -/
set_option maxRecDepth 100000 in
set_option maxHeartbeats 8000000 in
theorem walk  (w : World) :
    Calls Try.prog 12 #[] w fun e w' => e = .returned (.bool true) ∧ Grown w w' := by
  go_enter Try.func12, Try.ntmps12
  go_wp2_with fail
  refine (awake2_true _).mono ?_
  rintro e w1 ⟨rfl, g1⟩
  go_wp2_with fail
  refine (of_zero 1 _).mono ?_
  rintro e w2 ⟨rfl, g2⟩
  have gw := grown_trans g1 g2
  clear g1 g2
  go_wp2_with fail
  refine (of_at 0 (-7) 0 1 _ (by omega) (by omega) (by omega) (by omega) (by omega) (by omega) (by decide) (by omega) (by unfold Fit; omega) (by unfold Fit; omega)).mono ?_
  rintro e w3 ⟨rfl, g3⟩
  have z3 := ge_alloc g3
  replace gw := grown_trans (gw.alloc _ _) g3
  clear g3
  go_wp2_with fail
  refine (of_over (-9223372036854775808) (-1) 9223372036854775808 1 _ (by omega) (by omega) (by omega) (by omega) (by omega) (by omega) (by decide) (by omega) (by unfold Fit; omega)).mono ?_
  rintro e w4 ⟨rfl, g4⟩
  have z4 := ge_alloc g4
  have ca0 : w4.cell? ⟨w3.heap.size, 0, none⟩ = some (.int .i64 0) := gcell g4 (by simp [go_sem])
  have ca1 : w4.cell? ⟨w3.heap.size, 1, none⟩ = some (.int .i64 1) := gcell g4 (by simp [go_sem])
  replace gw := grown_trans (gw.alloc _ _) g4
  clear g4
  go_wp2_with fail
  refine (of_at (-9223372036854775808) (-2) 4611686018427387904 1 _ (by omega) (by omega) (by omega) (by omega) (by omega) (by omega) (by decide) (by omega) (by unfold Fit; omega) (by unfold Fit; omega)).mono ?_
  rintro e w5 ⟨rfl, g5⟩
  replace ca0 := gcell g5 (cell_old ca0 _ _)
  replace ca1 := gcell g5 (cell_old ca1 _ _)
  have z5 := ge_alloc g5
  replace gw := grown_trans (gw.alloc _ _) g5
  clear g5
  go_wp2_with fail
  refine ((radd_at 9223372036854775807 1 1 1 9223372036854775808 1 _ (by omega) (by omega) (by omega) (by omega) (by omega) (by omega) ⟨by omega, by decide⟩ ⟨by omega, by decide⟩ (by omega) (by decide) (by omega)).2 (by unfold Fit; omega)).mono ?_
  rintro e w6 ⟨rfl, g6⟩
  replace ca0 := gcell g6 (cell_old ca0 _ _)
  replace ca1 := gcell g6 (cell_old ca1 _ _)
  have z6 := ge_alloc g6
  have cb0 : w6.cell? ⟨w5.heap.size, 0, none⟩ = some (.int .i64 4611686018427387904) := gcell g6 (by simp [go_sem])
  have cb1 : w6.cell? ⟨w5.heap.size, 1, none⟩ = some (.int .i64 1) := gcell g6 (by simp [go_sem])
  replace gw := grown_trans (gw.alloc _ _) g6
  clear g6
  go_wp2_with fail
  refine ((rsub_at 1 9223372036854775807 1 9223372036854775807 0 1 _ (by omega) (by omega) (by omega) (by omega) (by omega) (by omega) ⟨by omega, by decide⟩ ⟨by omega, by decide⟩ (by omega) (by decide) (by omega)).1 (by unfold Fit; omega) (by unfold Fit; omega)).mono ?_
  rintro e w7 ⟨rfl, g7⟩
  replace ca0 := gcell g7 (cell_old ca0 _ _)
  replace ca1 := gcell g7 (cell_old ca1 _ _)
  replace cb0 := gcell g7 (cell_old cb0 _ _)
  replace cb1 := gcell g7 (cell_old cb1 _ _)
  have z7 := ge_alloc g7
  replace gw := grown_trans (gw.alloc _ _) g7
  clear g7
  go_wp2_with fail
  refine ((rmult_at 9223372036854775807 1 2 1 18446744073709551614 1 _ (by omega) (by omega) (by omega) (by omega) (by omega) (by omega) ⟨by omega, by decide⟩ ⟨by omega, by decide⟩ (by omega) (by decide) (by omega)).2 (by unfold Fit; omega)).mono ?_
  rintro e w8 ⟨rfl, g8⟩
  replace ca0 := gcell g8 (cell_old ca0 _ _)
  replace ca1 := gcell g8 (cell_old ca1 _ _)
  replace cb0 := gcell g8 (cell_old cb0 _ _)
  replace cb1 := gcell g8 (cell_old cb1 _ _)
  have z8 := ge_alloc g8
  have cc0 : w8.cell? ⟨w7.heap.size, 0, none⟩ = some (.int .i64 0) := gcell g8 (by simp [go_sem])
  have cc1 : w8.cell? ⟨w7.heap.size, 1, none⟩ = some (.int .i64 1) := gcell g8 (by simp [go_sem])
  replace gw := grown_trans (gw.alloc _ _) g8
  clear g8
  go_wp2_with fail
  refine ((rmult_at 9223372036854775807 2 2 9223372036854775807 1 1 _ (by omega) (by omega) (by omega) (by omega) (by omega) (by omega) ⟨by omega, by decide⟩ ⟨by omega, by decide⟩ (by omega) (by decide) (by omega)).1 (by unfold Fit; omega) (by unfold Fit; omega)).mono ?_
  rintro e w9 ⟨rfl, g9⟩
  replace ca0 := gcell g9 (cell_old ca0 _ _)
  replace ca1 := gcell g9 (cell_old ca1 _ _)
  replace cb0 := gcell g9 (cell_old cb0 _ _)
  replace cb1 := gcell g9 (cell_old cb1 _ _)
  replace cc0 := gcell g9 (cell_old cc0 _ _)
  replace cc1 := gcell g9 (cell_old cc1 _ _)
  have z9 := ge_alloc g9
  replace gw := grown_trans (gw.alloc _ _) g9
  clear g9
  go_wp2_with fail
  have s0 : ((w9.alloc (.cells #[.int .i64 1, .int .i64 1] 37)).alloc (.cells #[.int .i64 0, .int .i64 0, .int .i64 1, .int .i64 0, .int .i64 2, .int .i64 4, .int .i64 0, .int .i64 2, .int .i64 1, .int .i64 (-1)] 37)).cell? ⟨w9.heap.size + 1, 0, none⟩ = some (.int .i64 (0)) := by simp [go_sem]
  have s1 : ((w9.alloc (.cells #[.int .i64 1, .int .i64 1] 37)).alloc (.cells #[.int .i64 0, .int .i64 0, .int .i64 1, .int .i64 0, .int .i64 2, .int .i64 4, .int .i64 0, .int .i64 2, .int .i64 1, .int .i64 (-1)] 37)).cell? ⟨w9.heap.size + 1, 1, none⟩ = some (.int .i64 (0)) := by simp [go_sem]
  have s2 : ((w9.alloc (.cells #[.int .i64 1, .int .i64 1] 37)).alloc (.cells #[.int .i64 0, .int .i64 0, .int .i64 1, .int .i64 0, .int .i64 2, .int .i64 4, .int .i64 0, .int .i64 2, .int .i64 1, .int .i64 (-1)] 37)).cell? ⟨w9.heap.size + 1, 2, none⟩ = some (.int .i64 (1)) := by simp [go_sem]
  have s3 : ((w9.alloc (.cells #[.int .i64 1, .int .i64 1] 37)).alloc (.cells #[.int .i64 0, .int .i64 0, .int .i64 1, .int .i64 0, .int .i64 2, .int .i64 4, .int .i64 0, .int .i64 2, .int .i64 1, .int .i64 (-1)] 37)).cell? ⟨w9.heap.size + 1, 3, none⟩ = some (.int .i64 (0)) := by simp [go_sem]
  have s4 : ((w9.alloc (.cells #[.int .i64 1, .int .i64 1] 37)).alloc (.cells #[.int .i64 0, .int .i64 0, .int .i64 1, .int .i64 0, .int .i64 2, .int .i64 4, .int .i64 0, .int .i64 2, .int .i64 1, .int .i64 (-1)] 37)).cell? ⟨w9.heap.size + 1, 4, none⟩ = some (.int .i64 (2)) := by simp [go_sem]
  have s5 : ((w9.alloc (.cells #[.int .i64 1, .int .i64 1] 37)).alloc (.cells #[.int .i64 0, .int .i64 0, .int .i64 1, .int .i64 0, .int .i64 2, .int .i64 4, .int .i64 0, .int .i64 2, .int .i64 1, .int .i64 (-1)] 37)).cell? ⟨w9.heap.size + 1, 5, none⟩ = some (.int .i64 (4)) := by simp [go_sem]
  have s6 : ((w9.alloc (.cells #[.int .i64 1, .int .i64 1] 37)).alloc (.cells #[.int .i64 0, .int .i64 0, .int .i64 1, .int .i64 0, .int .i64 2, .int .i64 4, .int .i64 0, .int .i64 2, .int .i64 1, .int .i64 (-1)] 37)).cell? ⟨w9.heap.size + 1, 6, none⟩ = some (.int .i64 (0)) := by simp [go_sem]
  have s7 : ((w9.alloc (.cells #[.int .i64 1, .int .i64 1] 37)).alloc (.cells #[.int .i64 0, .int .i64 0, .int .i64 1, .int .i64 0, .int .i64 2, .int .i64 4, .int .i64 0, .int .i64 2, .int .i64 1, .int .i64 (-1)] 37)).cell? ⟨w9.heap.size + 1, 7, none⟩ = some (.int .i64 (2)) := by simp [go_sem]
  have s8 : ((w9.alloc (.cells #[.int .i64 1, .int .i64 1] 37)).alloc (.cells #[.int .i64 0, .int .i64 0, .int .i64 1, .int .i64 0, .int .i64 2, .int .i64 4, .int .i64 0, .int .i64 2, .int .i64 1, .int .i64 (-1)] 37)).cell? ⟨w9.heap.size + 1, 8, none⟩ = some (.int .i64 (1)) := by simp [go_sem]
  have s9 : ((w9.alloc (.cells #[.int .i64 1, .int .i64 1] 37)).alloc (.cells #[.int .i64 0, .int .i64 0, .int .i64 1, .int .i64 0, .int .i64 2, .int .i64 4, .int .i64 0, .int .i64 2, .int .i64 1, .int .i64 (-1)] 37)).cell? ⟨w9.heap.size + 1, 9, none⟩ = some (.int .i64 (-1)) := by simp [go_sem]
  have cd0 : ((w9.alloc (.cells #[.int .i64 1, .int .i64 1] 37)).alloc (.cells #[.int .i64 0, .int .i64 0, .int .i64 1, .int .i64 0, .int .i64 2, .int .i64 4, .int .i64 0, .int .i64 2, .int .i64 1, .int .i64 (-1)] 37)).cell? ⟨w9.heap.size, 0, none⟩ = some (.int .i64 1) := by simp [go_sem]
  have cd1 : ((w9.alloc (.cells #[.int .i64 1, .int .i64 1] 37)).alloc (.cells #[.int .i64 0, .int .i64 0, .int .i64 1, .int .i64 0, .int .i64 2, .int .i64 4, .int .i64 0, .int .i64 2, .int .i64 1, .int .i64 (-1)] 37)).cell? ⟨w9.heap.size, 1, none⟩ = some (.int .i64 1) := by simp [go_sem]
  replace ca0 := cell_old (cell_old ca0 #[.int .i64 1, .int .i64 1] 37) #[.int .i64 0, .int .i64 0, .int .i64 1, .int .i64 0, .int .i64 2, .int .i64 4, .int .i64 0, .int .i64 2, .int .i64 1, .int .i64 (-1)] 37
  replace ca1 := cell_old (cell_old ca1 #[.int .i64 1, .int .i64 1] 37) #[.int .i64 0, .int .i64 0, .int .i64 1, .int .i64 0, .int .i64 2, .int .i64 4, .int .i64 0, .int .i64 2, .int .i64 1, .int .i64 (-1)] 37
  replace cb0 := cell_old (cell_old cb0 #[.int .i64 1, .int .i64 1] 37) #[.int .i64 0, .int .i64 0, .int .i64 1, .int .i64 0, .int .i64 2, .int .i64 4, .int .i64 0, .int .i64 2, .int .i64 1, .int .i64 (-1)] 37
  replace cb1 := cell_old (cell_old cb1 #[.int .i64 1, .int .i64 1] 37) #[.int .i64 0, .int .i64 0, .int .i64 1, .int .i64 0, .int .i64 2, .int .i64 4, .int .i64 0, .int .i64 2, .int .i64 1, .int .i64 (-1)] 37
  replace cc0 := cell_old (cell_old cc0 #[.int .i64 1, .int .i64 1] 37) #[.int .i64 0, .int .i64 0, .int .i64 1, .int .i64 0, .int .i64 2, .int .i64 4, .int .i64 0, .int .i64 2, .int .i64 1, .int .i64 (-1)] 37
  replace cc1 := cell_old (cell_old cc1 #[.int .i64 1, .int .i64 1] 37) #[.int .i64 0, .int .i64 0, .int .i64 1, .int .i64 0, .int .i64 2, .int .i64 4, .int .i64 0, .int .i64 2, .int .i64 1, .int .i64 (-1)] 37
  replace gw := (gw.alloc #[.int .i64 1, .int .i64 1] 37).alloc #[.int .i64 0, .int .i64 0, .int .i64 1, .int .i64 0, .int .i64 2, .int .i64 4, .int .i64 0, .int .i64 2, .int .i64 1, .int .i64 (-1)] 37
  generalize ((w9.alloc (.cells #[.int .i64 1, .int .i64 1] 37)).alloc (.cells #[.int .i64 0, .int .i64 0, .int .i64 1, .int .i64 0, .int .i64 2, .int .i64 4, .int .i64 0, .int .i64 2, .int .i64 1, .int .i64 (-1)] 37)) = W at *
  go_loopw [18] (fun i wr => Rounds5 W i wr) (fun i _ => (5 - intOf i).toNat)
  case atStart => exact ⟨0, by omega, rfl, Grown.refl _⟩
  case round =>
    obtain ⟨k, hk, rfl, gr⟩ := hrel
    rcases hk with rfl | rfl | rfl | rfl | rfl | rfl
    · have r0 := gcell gr s0
      have r1 := gcell gr s1
      have G := Lib.hid (grown_trans gw gr)
      clear s0 s1 s2 s3 s4 s5 s6 s7 s8 s9 cd0 cd1 ca0 ca1 cb0 cb1 cc0 cc1 gw
      go_wp2_with fail
      refine (may_no _ _ _ (by omega) (by omega) (by omega) (by omega) (by unfold MayR; first | omega | decide)).mono ?_
      rintro e wk ⟨rfl, gk⟩
      go_wp2
      go_roundw
      case rel => exact ⟨1, by omega, rfl, grown_trans gr gk⟩
      case measure => simp [intOf]
    · have r0 := gcell gr s2
      have r1 := gcell gr s3
      have G := Lib.hid (grown_trans gw gr)
      clear s0 s1 s2 s3 s4 s5 s6 s7 s8 s9 cd0 cd1 ca0 ca1 cb0 cb1 cc0 cc1 gw
      go_wp2_with fail
      refine (may_no _ _ _ (by omega) (by omega) (by omega) (by omega) (by unfold MayR; first | omega | decide)).mono ?_
      rintro e wk ⟨rfl, gk⟩
      go_wp2
      go_roundw
      case rel => exact ⟨2, by omega, rfl, grown_trans gr gk⟩
      case measure => simp [intOf]
    · have r0 := gcell gr s4
      have r1 := gcell gr s5
      have G := Lib.hid (grown_trans gw gr)
      clear s0 s1 s2 s3 s4 s5 s6 s7 s8 s9 cd0 cd1 ca0 ca1 cb0 cb1 cc0 cc1 gw
      go_wp2_with fail
      refine (may_no _ _ _ (by omega) (by omega) (by omega) (by omega) (by unfold MayR; first | omega | decide)).mono ?_
      rintro e wk ⟨rfl, gk⟩
      go_wp2
      go_roundw
      case rel => exact ⟨3, by omega, rfl, grown_trans gr gk⟩
      case measure => simp [intOf]
    · have r0 := gcell gr s6
      have r1 := gcell gr s7
      have G := Lib.hid (grown_trans gw gr)
      clear s0 s1 s2 s3 s4 s5 s6 s7 s8 s9 cd0 cd1 ca0 ca1 cb0 cb1 cc0 cc1 gw
      go_wp2_with fail
      refine (may_no _ _ _ (by omega) (by omega) (by omega) (by omega) (by unfold MayR; first | omega | decide)).mono ?_
      rintro e wk ⟨rfl, gk⟩
      go_wp2
      go_roundw
      case rel => exact ⟨4, by omega, rfl, grown_trans gr gk⟩
      case measure => simp [intOf]
    · have r0 := gcell gr s8
      have r1 := gcell gr s9
      have G := Lib.hid (grown_trans gw gr)
      clear s0 s1 s2 s3 s4 s5 s6 s7 s8 s9 cd0 cd1 ca0 ca1 cb0 cb1 cc0 cc1 gw
      go_wp2_with fail
      refine (may_no _ _ _ (by omega) (by omega) (by omega) (by omega) (by unfold MayR; first | omega | decide)).mono ?_
      rintro e wk ⟨rfl, gk⟩
      go_wp2
      go_roundw
      case rel => exact ⟨5, by omega, rfl, grown_trans gr gk⟩
      case measure => simp [intOf]
    · clear s0 s1 s2 s3 s4 s5 s6 s7 s8 s9
      replace ca0 := gcell gr ca0
      replace ca1 := gcell gr ca1
      replace cb0 := gcell gr cb0
      replace cb1 := gcell gr cb1
      replace cc0 := gcell gr cc0
      replace cc1 := gcell gr cc1
      replace cd0 := gcell gr cd0
      replace cd1 := gcell gr cd1
      replace gw := grown_trans gw gr
      clear gr
      go_wp2_with fail
      refine (floor_ints (-7) 2 (-4) _ (by omega) (by omega) (by omega) ⟨by omega, by decide⟩ (by decide)).mono ?_
      rintro e v1 ⟨rfl, g1⟩
      replace ca0 := gcell g1 ca0
      replace ca1 := gcell g1 ca1
      replace cb0 := gcell g1 cb0
      replace cb1 := gcell g1 cb1
      replace cc0 := gcell g1 cc0
      replace cc1 := gcell g1 cc1
      replace cd0 := gcell g1 cd0
      replace cd1 := gcell g1 cd1
      replace gw := grown_trans gw g1
      clear g1
      go_wp2_with fail
      refine (ceil_ints (-7) 2 (-3) _ (by omega) (by omega) (by omega) ⟨by omega, by decide⟩ (by decide)).mono ?_
      rintro e v2 ⟨rfl, g2⟩
      replace ca0 := gcell g2 ca0
      replace ca1 := gcell g2 ca1
      replace cb0 := gcell g2 cb0
      replace cb1 := gcell g2 cb1
      replace cc0 := gcell g2 cc0
      replace cc1 := gcell g2 cc1
      replace cd0 := gcell g2 cd0
      replace cd1 := gcell g2 cd1
      replace gw := grown_trans gw g2
      clear g2
      go_wp2_with fail
      refine (cmp_yes 9223372036854775807 9223372036854775806 9223372036854775806 9223372036854775805 _ (by omega) (by omega) (by omega) (by omega) (by omega) (by omega) ⟨by omega, by decide⟩ ⟨by omega, by decide⟩).mono ?_
      rw [cmpI_lt (by decide)]
      rintro e v3 ⟨rfl, g3⟩
      go_wp2
      go_ret
      exact ⟨rfl, grown_trans gw g3⟩

/-! ### THE ROW's STEP: WRITTEN OUT: LEAVE IT -/
set_option maxRecDepth 100000 in
theorem lifted (os : Os) (started : os.Started) (H : Type) (enc : TypeId × Value → H) :
    ReturnsInHanded {} Try.checked os 12 .any (Rows.ratioKnownSpec.pre6 enc Try.prog Try.f12 Rows.ratioKnownRow.domain false) (Rows.ratioKnownSpec.post enc Try.prog Try.f12 false true false false) := by
  refine returnsInHanded_of_change (C := Try.checked) own started (by kernel_rfl) Try.func12
    (ChangeSpec.witness6 (enc := enc) (C := Try.checked) false ⟨#[], #[], []⟩ 8 (by kernel_rfl) (by kernel_rfl) (by kernel_rfl) (by kernel_rfl)) ?_
  intro W base args ds gs before hval0 hW hcnd _
  have hval : ∀ (j : Nat) t v, Try.f12.params[j]? = some t → args[j]? = some v → Value.okWide Try.prog W .any base t v := hval0
  have hW' := hW
  obtain ⟨p, q, hA0, hV, rfl, hfz, hnd⟩ := hW
  have hA : DataW.TrodAll enc Try.prog W 0 (fun _ => true) true Try.f12.params.toList args.toList ds p := hA0
  rw [Try.params12] at hA hval
  obtain ⟨rfl, rfl, rfl⟩ := trodAll_none hA
  obtain ⟨rfl, rfl⟩ := trodVars_none hV
  clear hA0 hval0
  simp only [List.append_nil] at hW'
  refine (walk  W).mono fun e W' ⟨he, hg⟩ => ?_
  subst he
  exact ⟨_, rfl, post_of_same (pa := []) (pv := []) hW' (fun _ _ _ => (trodAll_cons_mk (shut_bool Try.underlying4 _) trodAll_mk0)) (fun sp _ => rfl) (fun _ _ => rfl) rfl
    (hg.frame _) hg.2.1 (ok_one (by kernel_rfl) rfl (okWide_bool_mk Try.underlying4 _))⟩

theorem over : Rows.ratioKnownRow.holds Try.pinned (OpenSpec.ofChange Rows.ratioKnownSpec) :=
  OpenClaim.holds_of_wide 12 Try.f12 rfl rfl rfl rfl rfl rfl rfl ⟨rfl, rfl, rfl, rfl, rfl⟩ rfl rfl rfl rfl rfl (by kernel_rfl) Try.func12 (by kernel_rfl)
    (of_decide_eq_true (by kernel_rfl)) (by unfold Func.isWrapper; first | (rw [if_pos (by decide +kernel)]; kernel_rfl) | (rw [if_neg (by decide +kernel)]; exact ⟨rfl, rfl⟩))
    (fun os started H enc _ => lifted os started H enc)

/-- ████ THE STATEMENT ████ -/
theorem proved : Rows.RatioKnownSaid :=
  over
#print axioms proved
end Go.Proofs.Ytkmapegglgcfnaa.ratioKnown
