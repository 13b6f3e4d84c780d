/- PROVED: for any task of e quanta in p and any of its quanta, run in the first or the last slot of its window it keeps its job within one of its fluid share, as the law WindowFluid says; no condition. -/
import Derived.Test.YtcigmcbppombhaaRows
import Derived.WalkKit
import Derived.ProofKit
import Derived.OpenShut
import Derived.ShutString
import Derived.Test.YtcigmcbppombhaaC2
namespace Go.Proofs.Ytcigmcbppombhaa.windowFluid
open Go.ChangeShapes Go.WideShapes Go.ChangeAt Go.RowKit
open Go.ChangeMaps (open_string shut_string)
set_option linter.unusedVariables false      -- a walk need not use every 'w<i>' (that an integer argument fits its kind)

theorem own : ownKnob Try.prog.godebug = none := by kernel_rfl

/-! ### STEP 1: THE WALK: the Go text returns true. 'Grown w w'': the world has at most new blocks (Derived/RowKit3.lean). Part the cases AHEAD of 'go_enter' where a test parts the walk; take each callee by a contract of your own. -/
set_option maxRecDepth 100000 in
set_option maxHeartbeats 8000000 in
theorem walk (a0 : Int) (a1 : Int) (a2 : Int) (w0 : (Lit.int .i64 a0).wf = true) (w1 : (Lit.int .i64 a1).wf = true) (w2 : (Lit.int .u16 a2).wf = true) (w : World) :
    Calls Try.prog 7 #[.int .i64 a0, .int .i64 a1, .int .u16 a2] w fun e w' => e = .returned (.bool true) ∧ Grown w w' := by
  obtain ⟨u0, u1⟩ := bounds_u16 w2
  clear w0 w1 w2
  by_cases ht : Task a0 a1
  · have h1 := ht.e1; have h2 := ht.ep; have h3 := ht.pm
    have m0 := Int.emod_nonneg a2 (show a0 ≠ 0 by omega)
    have m1 := Int.emod_lt_of_pos a2 (show 0 < a0 by omega)
    obtain ⟨j, hj⟩ : ∃ j, 1 + a2 % a0 = j := ⟨_, rfl⟩
    have hq : Quan a0 a1 j := ⟨ht, by omega, by omega⟩
    have h4 := hq.i1; have h5 := hq.ie
    obtain ⟨b0, b1⟩ := ip_bd hq
    obtain ⟨r0, r1⟩ := rel_bd hq
    obtain ⟨d0, d1⟩ := dl_bd hq
    obtain ⟨f1, f2⟩ := rel_fac hq
    obtain ⟨f3, f4⟩ := dl_fac hq
    obtain ⟨r, hr⟩ : ∃ r, rel a0 a1 j = r := ⟨_, rfl⟩
    obtain ⟨d, hd⟩ : ∃ d, dl a0 a1 j = d := ⟨_, rfl⟩
    rw [hr] at r0 r1 f1 f2
    rw [hd] at d0 d1 f3 f4
    have HR := Lib.hid hr
    have HD := Lib.hid hd
    clear hr hd
    have l1 : (r + 1) * a0 = r * a0 + a0 := by rw [Int.add_mul]; omega
    have l2 : (d - 1) * a0 = d * a0 - a0 := by rw [Int.sub_mul]; omega
    have l3 : (j - 1) * a1 = j * a1 - a1 := by rw [Int.sub_mul]; omega
    obtain ⟨A, hA⟩ : ∃ A, (r + 1) * a0 = A := ⟨_, rfl⟩
    obtain ⟨B, hB⟩ : ∃ B, j * a1 = B := ⟨_, rfl⟩
    obtain ⟨C, hC⟩ : ∃ C, d * a0 = C := ⟨_, rfl⟩
    obtain ⟨D, hD⟩ : ∃ D, (d - 1) * a0 = D := ⟨_, rfl⟩
    obtain ⟨E, hE⟩ : ∃ E, (j - 1) * a1 = E := ⟨_, rfl⟩
    obtain ⟨F, hF⟩ : ∃ F, r * a0 = F := ⟨_, rfl⟩
    rw [hA, hF] at l1
    rw [hD, hC] at l2
    rw [hE, hB] at l3
    rw [hF, hE] at f1
    rw [hE, hA] at f2
    rw [hB, hC] at f3
    rw [hD, hB] at f4
    rw [hB] at b0 b1
    have c1 : 0 ≤ F := by rw [← hF]; exact Int.mul_nonneg r0 (by omega)
    obtain ⟨f, hf⟩ : ∃ f, A - B = f := ⟨_, rfl⟩
    obtain ⟨l, hl⟩ : ∃ l, C - B = l := ⟨_, rfl⟩
    obtain ⟨h, hh⟩ : ∃ h, D - E = h := ⟨_, rfl⟩
    obtain ⟨m, hm⟩ : ∃ m, F - E = m := ⟨_, rfl⟩
    have t1 : -a1 < f := by omega
    have t2 : l < a1 := by omega
    have t3 : 0 ≤ l := by omega
    have t4 : h < a1 := by omega
    have t5 : m ≤ 0 := by omega
    have g1 : A ≤ 1200000000000 := by omega
    have g2 : 0 ≤ A := by omega
    have g3 : C ≤ 1200000000000 := by omega
    have g4 : 0 ≤ C := by omega
    have g5 : D ≤ 1200000000000 := by omega
    have g6 : 0 ≤ D := by omega
    have g7 : E ≤ 1200000000000 := by omega
    have g8 : 0 ≤ E := by omega
    have g9 : F ≤ 1200000000000 := by omega
    have i1 : f ≤ 1200000000000 := by omega
    have i2 : -1200000000000 ≤ h := by omega
    have i3 : -1200000000000 ≤ m := by omega
    clear l1 l2 l3
    go_enter Try.func7, Try.ntmps7
    go_wp2_with fail
    refine (awake_true _).mono ?_
    rintro e w0 ⟨rfl, rfl⟩
    go_wp2_with fail
    refine (taskMay_yes _ _ _ ht).mono ?_
    rintro e w0 ⟨rfl, rfl⟩
    go_wp2_with fail
    refine (release_yes _ _ _ r _ hq HR.out).mono ?_
    rintro e w0 ⟨rfl, rfl⟩
    go_wp2_with fail
    refine (deadline_yes _ _ _ d _ hq HD.out).mono ?_
    rintro e w0 ⟨rfl, rfl⟩
    go_wp2
    go_ret
    exact ⟨by first | rfl | exact ret_bool (by simp <;> omega), Grown.refl _⟩
  · go_enter Try.func7, Try.ntmps7
    go_wp2_with fail
    refine (awake_true _).mono ?_
    rintro e w0 ⟨rfl, rfl⟩
    go_wp2_with fail
    refine (taskMay_no _ _ _ ht).mono ?_
    rintro e w0 ⟨rfl, rfl⟩
    go_wp2
    go_ret
    exact ⟨rfl, Grown.refl _⟩

/-! ### THE ROW's STEP: WRITTEN OUT: LEAVE IT -/
set_option maxRecDepth 100000 in
theorem lifted (os : Os) (started : os.Started) (H : Type) (enc : TypeId × Value → H) :
    ReturnsInHanded {} Try.checked os 7 .any (Rows.windowFluidSpec.pre6 enc Try.prog Try.f7 Rows.windowFluidRow.domain false) (Rows.windowFluidSpec.post enc Try.prog Try.f7 false true false false) := by
  refine returnsInHanded_of_change (C := Try.checked) own started (by kernel_rfl) Try.func7
    (ChangeSpec.witness6 (enc := enc) (C := Try.checked) false ⟨#[], #[.int .i64 0, .int .i64 0, .int .u16 0], []⟩ 8 (by kernel_rfl) (by kernel_rfl) (by kernel_rfl) (by kernel_rfl)) ?_
  intro W base args ds gs before hval0 hW hcnd _
  have hval : ∀ (j : Nat) t v, Try.f7.params[j]? = some t → args[j]? = some v → Value.okWide Try.prog W .any base t v := hval0
  have hW' := hW
  obtain ⟨p, q, hA0, hV, rfl, hfz, hnd⟩ := hW
  have hA : DataW.TrodAll enc Try.prog W 0 (fun _ => true) true Try.f7.params.toList args.toList ds p := hA0
  rw [Try.params7] at hA hval
  obtain ⟨v0, vs0, d0, ds0, p0, q0, hargs, rfl, rfl, h0, r0⟩ := trodAll_cons hA
  obtain ⟨v1, vs1, d1, ds1, p1, q1, rfl, rfl, rfl, h1, r1⟩ := trodAll_cons r0
  obtain ⟨v2, vs2, d2, ds2, p2, q2, rfl, rfl, rfl, h2, r2⟩ := trodAll_cons r1
  obtain ⟨rfl, rfl, rfl⟩ := trodAll_nil r2
  obtain rfl : args = #[v0, v1, v2] := by cases args; simp_all
  obtain ⟨rfl, rfl⟩ := trodVars_none hV
  obtain ⟨a0, rfl, rfl, rfl, w0⟩ := open_int Try.underlying3 (hval 0 3 v0 rfl rfl) h0
  obtain ⟨a1, rfl, rfl, rfl, w1⟩ := open_int Try.underlying3 (hval 1 3 v1 rfl rfl) h1
  obtain ⟨a2, rfl, rfl, rfl, w2⟩ := open_int Try.underlying29 (hval 2 29 v2 rfl rfl) h2
  clear hA0 hval0
  simp only [List.append_nil] at hW'
  refine (walk a0 a1 a2 w0 w1 w2 W).mono fun e W' ⟨he, hg⟩ => ?_
  subst he
  exact ⟨_, rfl, post_of_same (pa := []) (pv := []) hW' (fun _ _ _ => (trodAll_cons_mk (shut_bool Try.underlying4 _) trodAll_mk0)) (fun sp _ => (trodAll_cons_mk (shut_int Try.underlying3 w0) (trodAll_cons_mk (shut_int Try.underlying3 w1) (trodAll_cons_mk (shut_int Try.underlying29 w2) trodAll_mk0)))) (fun _ _ => rfl) rfl
    (hg.frame _) hg.2.1 (ok_one (by kernel_rfl) rfl (okWide_bool_mk Try.underlying4 _))⟩

theorem over : Rows.windowFluidRow.holds Try.pinned (OpenSpec.ofChange Rows.windowFluidSpec) :=
  OpenClaim.holds_of_wide 7 Try.f7 rfl rfl rfl rfl rfl rfl rfl ⟨rfl, rfl, rfl, rfl, rfl⟩ rfl rfl rfl rfl rfl (by kernel_rfl) Try.func7 (by kernel_rfl)
    (of_decide_eq_true (by kernel_rfl)) (by unfold Func.isWrapper; first | (rw [if_pos (by decide +kernel)]; kernel_rfl) | (rw [if_neg (by decide +kernel)]; exact ⟨rfl, rfl⟩))
    (fun os started H enc _ => lifted os started H enc)

/-- ████ THE STATEMENT ████ -/
theorem proved : Rows.WindowFluidSaid :=
  over
#print axioms proved
end Go.Proofs.Ytcigmcbppombhaa.windowFluid
