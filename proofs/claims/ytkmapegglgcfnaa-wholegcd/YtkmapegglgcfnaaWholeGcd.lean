/- PROVED: for any two numbers of 32 bits and any of 16 bits, what divides both goes as the law WholeGcd says; no condition. -/
import Derived.Test.YtkmapegglgcfnaaRows
import Derived.WalkKit
import Derived.ProofKit
import Derived.OpenShut
import Derived.ShutString
import Derived.Test.YtkmapegglgcfnaaGcds
namespace Go.Proofs.Ytkmapegglgcfnaa.wholeGcd
open Go.ChangeShapes Go.WideShapes Go.ChangeAt Go.RowKit
open Go.ChangeMaps (open_string shut_string)
set_option linter.unusedVariables false      -- a walk need not use every 'w<i>' (that an integer argument fits its kind)

theorem own : ownKnob Try.prog.godebug = none := by kernel_rfl

/-! ### STEP 1: THE WALK: the Go text returns true. 'Grown w w'': the world has at most new blocks (Derived/RowKit3.lean). Part the cases AHEAD of 'go_enter' where a test parts the walk; take each callee by a contract of your own. -/
set_option maxRecDepth 100000 in
set_option maxHeartbeats 1000000 in
theorem walk (a0 : Int) (a1 : Int) (a2 : Int) (w0 : (Lit.int .i32 a0).wf = true) (w1 : (Lit.int .i32 a1).wf = true) (w2 : (Lit.int .u16 a2).wf = true) (w : World) :
    Calls Try.prog 7 #[.int .i32 a0, .int .i32 a1, .int .u16 a2] w fun e w' => e = .returned (.bool true) ∧ Grown w w' := by
  obtain ⟨h0, h1⟩ := bounds_i32 w0
  obtain ⟨h2, h3⟩ := bounds_i32 w1
  obtain ⟨h4, h5⟩ := bounds_u16 w2
  clear w0 w1 w2
  have px := prod_bd (x := a0) (n := 1 + a2) (X := 2147483648) (N := 65536) (by omega) (by omega)
  have py := prod_bd (x := a1) (n := 1 + a2) (X := 2147483648) (N := 65536) (by omega) (by omega)
  have bg := gcd_le (a := a0) (b := a1) (B := 2147483648) (by omega) (by omega)
  have eg := gcdV_eq (a := a0) (b := a1) (by omega) (by omega)
  have hg0 : 0 ≤ gcdV a0 a1 := by omega
  have hg1 : gcdV a0 a1 ≤ 2147483648 := by omega
  have pg := prod_bd (x := gcdV a0 a1) (n := 1 + a2) (X := 2147483648) (N := 65536) (by omega) (by omega)
  have M := Lib.hid (gcdV_mul (a := a0) (b := a1) (n := 1 + a2) (by omega) (by omega) (by omega) (by omega) (by omega))
  have C := Lib.hid (gcdV_comm a0 a1)
  have Z := Lib.hid (gcdV_zero (a := a0) (by omega) (by omega))
  have x0 : -140737488355328 ≤ a0 * (1 + a2) := by omega
  have x1 : a0 * (1 + a2) ≤ 140737488355328 := by omega
  have y0 : -140737488355328 ≤ a1 * (1 + a2) := by omega
  have y1 : a1 * (1 + a2) ≤ 140737488355328 := by omega
  have z0 : -140737488355328 ≤ gcdV a0 a1 * (1 + a2) := by omega
  have z1 : gcdV a0 a1 * (1 + a2) ≤ 140737488355328 := by omega
  clear px py pg bg eg
  have hmx : ((a0.natAbs : Int) != if a0 < -a0 then -a0 else a0) = false := by
    rw [bne_eq_false_iff_eq]; split <;> omega
  by_cases c0 : a0 < 1
  · have d0 : decide (a0 < 1) = true := by simp [c0]
    go_enter Try.func7, Try.ntmps7
    go_wp2_with fail
    refine (awake_true _).mono ?_
    rintro e w1 ⟨rfl, g1⟩
    go_wp2_with fail
    refine (gcd_at a0 a1 (gcdV a0 a1) _ (by omega) (by omega) (by omega) (by omega) rfl).mono ?_
    rintro e w2 ⟨rfl, g2⟩
    go_wp2_with fail
    refine (gcd_at (a0 * (1 + a2)) (a1 * (1 + a2)) (gcdV a0 a1 * (1 + a2)) _ (by omega) (by omega) (by omega) (by omega) M.out).mono ?_
    rintro e w3 ⟨rfl, g3⟩
    go_wp2_with fail
    refine (gcd_at a1 a0 (gcdV a0 a1) _ (by omega) (by omega) (by omega) (by omega) C.out).mono ?_
    rintro e w4 ⟨rfl, g4⟩
    go_wp2_with fail
    refine (gcd_at a0 0 a0.natAbs _ (by omega) (by omega) (by omega) (by omega) Z.out).mono ?_
    rintro e w5 ⟨rfl, g5⟩
    go_wp2
    all_goals
      go_ret
      exact ⟨rfl, grown_trans g1 (grown_trans g2 (grown_trans g3 (grown_trans g4 g5)))⟩
  have d0 : decide (a0 < 1) = false := by simp [c0]
  by_cases c1 : a1 < 1
  · have d1 : decide (a1 < 1) = true := by simp [c1]
    go_enter Try.func7, Try.ntmps7
    go_wp2_with fail
    refine (awake_true _).mono ?_
    rintro e w1 ⟨rfl, g1⟩
    go_wp2_with fail
    refine (gcd_at a0 a1 (gcdV a0 a1) _ (by omega) (by omega) (by omega) (by omega) rfl).mono ?_
    rintro e w2 ⟨rfl, g2⟩
    go_wp2_with fail
    refine (gcd_at (a0 * (1 + a2)) (a1 * (1 + a2)) (gcdV a0 a1 * (1 + a2)) _ (by omega) (by omega) (by omega) (by omega) M.out).mono ?_
    rintro e w3 ⟨rfl, g3⟩
    go_wp2_with fail
    refine (gcd_at a1 a0 (gcdV a0 a1) _ (by omega) (by omega) (by omega) (by omega) C.out).mono ?_
    rintro e w4 ⟨rfl, g4⟩
    go_wp2_with fail
    refine (gcd_at a0 0 a0.natAbs _ (by omega) (by omega) (by omega) (by omega) Z.out).mono ?_
    rintro e w5 ⟨rfl, g5⟩
    go_wp2
    all_goals
      go_ret
      exact ⟨rfl, grown_trans g1 (grown_trans g2 (grown_trans g3 (grown_trans g4 g5)))⟩
  have d1 : decide (a1 < 1) = false := by simp [c1]
  obtain ⟨f1, f2, f3, f4, f5, f6, f7⟩ := lcm_facts (x := a0) (y := a1) (by omega) h1 (by omega) h3
  obtain ⟨m, hm⟩ : ∃ m, a0 / gcdV a0 a1 * a1 = m := ⟨_, rfl⟩
  rw [hm] at f3 f4 f5 f6 f7
  have HM := Lib.hid hm
  have t1 : (m % a0 == 0) = true := by simp [f5]
  have t2 : (m % a1 == 0) = true := by simp [f6]
  have t3 : (m / a0 * gcdV a0 a1 == a1) = true := by simp [f7]
  obtain ⟨q0, q1⟩ := quo_bd (a := m) (g := a0) f3 (by omega)
  have r0 : 0 ≤ m / a0 * gcdV a0 a1 := by omega
  have r1 : m / a0 * gcdV a0 a1 ≤ 2147483647 := by omega
  clear hm f5 f6 f7
  go_enter Try.func7, Try.ntmps7
  go_wp2_with fail
  refine (awake_true _).mono ?_
  rintro e w1 ⟨rfl, g1⟩
  go_wp2_with fail
  refine (gcd_at a0 a1 (gcdV a0 a1) _ (by omega) (by omega) (by omega) (by omega) rfl).mono ?_
  rintro e w2 ⟨rfl, g2⟩
  go_wp2_with fail
  refine (gcd_at (a0 * (1 + a2)) (a1 * (1 + a2)) (gcdV a0 a1 * (1 + a2)) _ (by omega) (by omega) (by omega) (by omega) M.out).mono ?_
  rintro e w3 ⟨rfl, g3⟩
  go_wp2_with fail
  refine (gcd_at a1 a0 (gcdV a0 a1) _ (by omega) (by omega) (by omega) (by omega) C.out).mono ?_
  rintro e w4 ⟨rfl, g4⟩
  go_wp2_with fail
  refine (gcd_at a0 0 a0.natAbs _ (by omega) (by omega) (by omega) (by omega) Z.out).mono ?_
  rintro e w5 ⟨rfl, g5⟩
  go_wp2_with fail
  refine (lcm_at a0 a1 m _ (by omega) (by omega) (by omega) (by omega) HM.out ⟨by omega, by omega⟩).mono ?_
  rintro e w6 ⟨rfl, g6⟩
  go_wp2
  all_goals
    go_ret
    exact ⟨rfl, grown_trans g1 (grown_trans g2 (grown_trans g3 (grown_trans g4 (grown_trans g5 g6))))⟩

/-! ### THE ROW's STEP: WRITTEN OUT: LEAVE IT -/
set_option maxRecDepth 100000 in
theorem lifted (os : Os) (started : os.Started) (H : Type) (enc : TypeId × Value → H) :
    ReturnsInHanded {} Try.checked os 7 .any (Rows.wholeGcdSpec.pre6 enc Try.prog Try.f7 Rows.wholeGcdRow.domain false) (Rows.wholeGcdSpec.post enc Try.prog Try.f7 false true false false) := by
  refine returnsInHanded_of_change (C := Try.checked) own started (by kernel_rfl) Try.func7
    (ChangeSpec.witness6 (enc := enc) (C := Try.checked) false ⟨#[], #[.int .i32 0, .int .i32 0, .int .u16 0], []⟩ 8 (by kernel_rfl) (by kernel_rfl) (by kernel_rfl) (by kernel_rfl)) ?_
  intro W base args ds gs before hval0 hW hcnd _
  have hval : ∀ (j : Nat) t v, Try.f7.params[j]? = some t → args[j]? = some v → Value.okWide Try.prog W .any base t v := hval0
  have hW' := hW
  obtain ⟨p, q, hA0, hV, rfl, hfz, hnd⟩ := hW
  have hA : DataW.TrodAll enc Try.prog W 0 (fun _ => true) true Try.f7.params.toList args.toList ds p := hA0
  rw [Try.params7] at hA hval
  obtain ⟨v0, vs0, d0, ds0, p0, q0, hargs, rfl, rfl, h0, r0⟩ := trodAll_cons hA
  obtain ⟨v1, vs1, d1, ds1, p1, q1, rfl, rfl, rfl, h1, r1⟩ := trodAll_cons r0
  obtain ⟨v2, vs2, d2, ds2, p2, q2, rfl, rfl, rfl, h2, r2⟩ := trodAll_cons r1
  obtain ⟨rfl, rfl, rfl⟩ := trodAll_nil r2
  obtain rfl : args = #[v0, v1, v2] := by cases args; simp_all
  obtain ⟨rfl, rfl⟩ := trodVars_none hV
  obtain ⟨a0, rfl, rfl, rfl, w0⟩ := open_int Try.underlying21 (hval 0 21 v0 rfl rfl) h0
  obtain ⟨a1, rfl, rfl, rfl, w1⟩ := open_int Try.underlying21 (hval 1 21 v1 rfl rfl) h1
  obtain ⟨a2, rfl, rfl, rfl, w2⟩ := open_int Try.underlying33 (hval 2 33 v2 rfl rfl) h2
  clear hA0 hval0
  simp only [List.append_nil] at hW'
  refine (walk a0 a1 a2 w0 w1 w2 W).mono fun e W' ⟨he, hg⟩ => ?_
  subst he
  exact ⟨_, rfl, post_of_same (pa := []) (pv := []) hW' (fun _ _ _ => (trodAll_cons_mk (shut_bool Try.underlying4 _) trodAll_mk0)) (fun sp _ => (trodAll_cons_mk (shut_int Try.underlying21 w0) (trodAll_cons_mk (shut_int Try.underlying21 w1) (trodAll_cons_mk (shut_int Try.underlying33 w2) trodAll_mk0)))) (fun _ _ => rfl) rfl
    (hg.frame _) hg.2.1 (ok_one (by kernel_rfl) rfl (okWide_bool_mk Try.underlying4 _))⟩

theorem over : Rows.wholeGcdRow.holds Try.pinned (OpenSpec.ofChange Rows.wholeGcdSpec) :=
  OpenClaim.holds_of_wide 7 Try.f7 rfl rfl rfl rfl rfl rfl rfl ⟨rfl, rfl, rfl, rfl, rfl⟩ rfl rfl rfl rfl rfl (by kernel_rfl) Try.func7 (by kernel_rfl)
    (of_decide_eq_true (by kernel_rfl)) (by unfold Func.isWrapper; first | (rw [if_pos (by decide +kernel)]; kernel_rfl) | (rw [if_neg (by decide +kernel)]; exact ⟨rfl, rfl⟩))
    (fun os started H enc _ => lifted os started H enc)

/-- ████ THE STATEMENT ████ -/
theorem proved : Rows.WholeGcdSaid :=
  over
#print axioms proved
end Go.Proofs.Ytkmapegglgcfnaa.wholeGcd
