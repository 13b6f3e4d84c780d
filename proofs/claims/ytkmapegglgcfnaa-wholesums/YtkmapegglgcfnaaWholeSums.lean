/- PROVED: for any four numbers of 64 bits, the sum and the product of two, and how two products compare, are the document's own; no condition. -/
import Derived.Test.YtkmapegglgcfnaaRows
import Derived.WalkKit
import Derived.ProofKit
import Derived.OpenShut
import Derived.ShutString
import Derived.Deep.DeepCutAuto
import Derived.Deep.RegionHeld3
import Derived.Test.YtkmapegglgcfnaaSums
namespace Go.Proofs.Ytkmapegglgcfnaa.wholeSums
open Go.ChangeShapes Go.WideShapes Go.ChangeAt Go.RowKit
open Go.ChangeMaps (open_string shut_string)
set_option linter.unusedVariables false      -- a walk need not use every 'w<i>' (that an integer argument fits its kind)

theorem cells2 : Try.prog.cellsOf 2 = 1 := by kernel_rfl
theorem cells22 : Try.prog.cellsOf 22 = 2 := by kernel_rfl
theorem own : ownKnob Try.prog.godebug = none := by kernel_rfl

/-! ### STEP 1: THE WALK: the Go text returns true. 'Grown w w'': the world has at most new blocks (Derived/RowKit3.lean). Part the cases AHEAD of 'go_enter' where a test parts the walk; take each callee by a contract of your own. -/
set_option maxRecDepth 100000 in
set_option maxHeartbeats 8000000 in
theorem walk (a0 : Int) (a1 : Int) (a2 : Int) (a3 : Int) (w0 : (Lit.int .i64 a0).wf = true) (w1 : (Lit.int .i64 a1).wf = true) (w2 : (Lit.int .i64 a2).wf = true) (w3 : (Lit.int .i64 a3).wf = true) (w : World) :
    Calls Try.prog 3 #[.int .i64 a0, .int .i64 a1, .agg #[.int .i64 a2, .int .i64 a3]] w fun e w' => e = .returned (.bool true) ∧ Grown w w' := by
  obtain ⟨h0, h1⟩ := bounds_i64 w0
  obtain ⟨h2, h3⟩ := bounds_i64 w1
  obtain ⟨h4, h5⟩ := bounds_i64 w2
  obtain ⟨h6, h7⟩ := bounds_i64 w3
  clear w0 w1 w2 w3
  go_enter Try.func3, Try.ntmps3
  go_wp2_with fail
  refine (awake_true _).mono ?_
  rintro e w1 ⟨rfl, g1⟩
  have hc0 : w1.cell? ⟨w.heap.size, 0, none⟩ = some (.int .i64 a2) := grown_cell g1 (by simp [World.cell?_alloc_new])
  have hc1 : w1.cell? ⟨w.heap.size, 1, none⟩ = some (.int .i64 a3) := grown_cell g1 (by simp [World.cell?_alloc_new])
  have gb := grown_trans ((Grown.refl w).alloc #[.int .i64 a2, .int .i64 a3] 22) g1
  clear g1
  go_wp2_with fail
  refine (add_any a0 a1 _ h0 h1 h2 h3).mono ?_
  rintro e w2 ⟨rfl, rfl⟩
  go_wp2_with fail
  refine (radd_any a0 a1 _ h0 h1 h2 h3).mono ?_
  rintro e w3 ⟨rfl, rfl⟩
  go_wp2_with fail
  refine (mul_any a0 a1 _ h0 h1 h2 h3).mono ?_
  rintro e w4 ⟨rfl, g4⟩
  have hd0 := grown_cell g4 hc0
  have hd1 := grown_cell g4 hc1
  have gc := grown_trans gb g4
  clear hc0 hc1 g4 gb
  go_wp2_with fail
  refine (rmul_any a0 a1 _ h0 h1 h2 h3).mono ?_
  rintro e w5 ⟨rfl, rfl⟩
  go_upto_region 7 with fail
  go_cut [7, 8, 9, 10, 11, 12, 13, 14, 76] (fun s7 s8 s9 s10 s11 s12 s13 s14 s76 wx => s76 = .bool false ∧ w4 = wx)
  case first =>
    cases hB : FitB (a0 + a1) <;> cases hM : FitB (a0 * a1)
    · obtain ⟨e1, e2⟩ := out_no hB
      obtain ⟨e3, e4⟩ := out_no hM
      clear hB hM
      go_wp2
      go_meet
      exact ⟨rfl, rfl⟩
    · obtain ⟨e1, e2⟩ := out_no hB
      obtain ⟨e3, e4⟩ := out_fit hM
      clear hB hM
      go_wp2
      go_meet
      exact ⟨rfl, rfl⟩
    · obtain ⟨e1, e2⟩ := out_fit hB
      obtain ⟨e3, e4⟩ := out_no hM
      clear hB hM
      go_wp2
      go_meet
      exact ⟨rfl, rfl⟩
    · obtain ⟨e1, e2⟩ := out_fit hB
      obtain ⟨e3, e4⟩ := out_fit hM
      clear hB hM
      go_wp2
      go_meet
      exact ⟨rfl, rfl⟩
  case rest =>
    obtain ⟨rfl, rfl⟩ := hcut
    have gr : Grown w4 w4 := Grown.refl _
    have z1 : (cmpI (a0 * a1) (a0 * a1) == 0) = true := by rw [cmpI_eq rfl]; rfl
    have z2 : (cmpI (a0 * a1) (a1 * a0) == 0) = true := by rw [cmpI_eq (Int.mul_comm a0 a1)]; rfl
    go_wp2_with fail
    go_region_held3 (fun w' => w'.cell? ⟨w.heap.size, 0, none⟩ = some (.int .i64 a2) ∧ w'.cell? ⟨w.heap.size, 1, none⟩ = some (.int .i64 a3) ∧ Grown w4 w') (exact ⟨by assumption, by assumption, by first | assumption | exact Grown.drew (by assumption)⟩)
      (first | (go_at_call 21; refine (cross_keep _ _ _ _ _ w4 w.heap.size (.int .i64 a2) (.int .i64 a3) (by omega) (by omega) (by omega) (by omega) (by omega) (by omega) (by omega) (by omega) ?_ ?_ ?_).mono ?_; assumption; assumption; (first | assumption | exact Grown.drew (by assumption)); rintro e w2 ⟨rfl, k2, l2, g2⟩) | (go_at_call 22; refine (rcross_keep _ _ _ _ _ w4 w.heap.size (.int .i64 a2) (.int .i64 a3) (by omega) (by omega) (by omega) (by omega) (by omega) (by omega) (by omega) (by omega) ?_ ?_ ?_).mono ?_; assumption; assumption; (first | assumption | exact Grown.drew (by assumption)); rintro e w2 ⟨rfl, k2, l2, g2⟩))
    have gw := grown_trans gc g2
    go_wp2
    go_ret
    exact ⟨rfl, gw⟩

/-! ### THE ROW's STEP: WRITTEN OUT: LEAVE IT -/
set_option maxRecDepth 100000 in
theorem lifted (os : Os) (started : os.Started) (H : Type) (enc : TypeId × Value → H) :
    ReturnsInHanded {} Try.checked os 3 .any (Rows.wholeSumsSpec.pre6 enc Try.prog Try.f3 Rows.wholeSumsRow.domain false) (Rows.wholeSumsSpec.post enc Try.prog Try.f3 false true false false) := by
  refine returnsInHanded_of_change (C := Try.checked) own started (by kernel_rfl) Try.func3
    (ChangeSpec.witness6 (enc := enc) (C := Try.checked) false ⟨#[], #[.int .i64 0, .int .i64 0, .agg #[.int .i64 0, .int .i64 0]], []⟩ 8 (by kernel_rfl) (by kernel_rfl) (by kernel_rfl) (by kernel_rfl)) ?_
  intro W base args ds gs before hval0 hW hcnd _
  have hval : ∀ (j : Nat) t v, Try.f3.params[j]? = some t → args[j]? = some v → Value.okWide Try.prog W .any base t v := hval0
  have hW' := hW
  obtain ⟨p, q, hA0, hV, rfl, hfz, hnd⟩ := hW
  have hA : DataW.TrodAll enc Try.prog W 0 (fun _ => true) true Try.f3.params.toList args.toList ds p := hA0
  rw [Try.params3] at hA hval
  obtain ⟨v0, vs0, d0, ds0, p0, q0, hargs, rfl, rfl, h0, r0⟩ := trodAll_cons hA
  obtain ⟨v1, vs1, d1, ds1, p1, q1, rfl, rfl, rfl, h1, r1⟩ := trodAll_cons r0
  obtain ⟨v2, vs2, d2, ds2, p2, q2, rfl, rfl, rfl, h2, r2⟩ := trodAll_cons r1
  obtain ⟨rfl, rfl, rfl⟩ := trodAll_nil r2
  obtain rfl : args = #[v0, v1, v2] := by cases args; simp_all
  obtain ⟨rfl, rfl⟩ := trodVars_none hV
  obtain ⟨a0, rfl, rfl, rfl, w0⟩ := open_int Try.underlying2 (hval 0 2 v0 rfl rfl) h0
  obtain ⟨a1, rfl, rfl, rfl, w1⟩ := open_int Try.underlying2 (hval 1 2 v1 rfl rfl) h1
  obtain ⟨a2, a3, rfl, rfl, rfl, w2, w3⟩ := open_two Try.underlying22 Try.underlying2 cells22 cells2 (hval 2 22 v2 rfl rfl) h2
  clear hA0 hval0
  simp only [List.append_nil] at hW'
  refine (walk a0 a1 a2 a3 w0 w1 w2 w3 W).mono fun e W' ⟨he, hg⟩ => ?_
  subst he
  exact ⟨_, rfl, post_of_same (pa := []) (pv := []) hW' (fun _ _ _ => (trodAll_cons_mk (shut_bool Try.underlying4 _) trodAll_mk0)) (fun sp _ => (trodAll_cons_mk (shut_int Try.underlying2 w0) (trodAll_cons_mk (shut_int Try.underlying2 w1) (trodAll_cons_mk (shut_two Try.underlying22 Try.underlying2 cells22 cells2 w2 w3) trodAll_mk0)))) (fun _ _ => rfl) rfl
    (hg.frame _) hg.2.1 (ok_one (by kernel_rfl) rfl (okWide_bool_mk Try.underlying4 _))⟩

theorem over : Rows.wholeSumsRow.holds Try.pinned (OpenSpec.ofChange Rows.wholeSumsSpec) :=
  OpenClaim.holds_of_wide 3 Try.f3 rfl rfl rfl rfl rfl rfl rfl ⟨rfl, rfl, rfl, rfl, rfl⟩ rfl rfl rfl rfl rfl (by kernel_rfl) Try.func3 (by kernel_rfl)
    (of_decide_eq_true (by kernel_rfl)) (by unfold Func.isWrapper; first | (rw [if_pos (by decide +kernel)]; kernel_rfl) | (rw [if_neg (by decide +kernel)]; exact ⟨rfl, rfl⟩))
    (fun os started H enc _ => lifted os started H enc)

/-- ████ THE STATEMENT ████ -/
theorem proved : Rows.WholeSumsSaid :=
  over
#print axioms proved
end Go.Proofs.Ytkmapegglgcfnaa.wholeSums
