/- The law RankRows of package evenhandedlaw4 answers true for every input: the subtasks of one job go in their order, whatever the weight. No condition. -/
import Derived.Test.YtpaiaoaffoeleaaRows
import Derived.WalkKit
import Derived.ProofKit
import Derived.OpenShut
import Derived.ShutString
import Derived.Test.YtpaiaoaffoeleaaP4
import Derived.Test.YtpaiaoaffoeleaaS4
namespace Go.Proofs.Ytpaiaoaffoeleaa.rankRows
open Go.ChangeShapes Go.WideShapes Go.ChangeAt Go.RowKit
open Go.ChangeMaps (open_string shut_string)
set_option linter.unusedVariables false      -- a walk need not use every 'w<i>' (that an integer argument fits its kind)

theorem own : ownKnob Try.prog.godebug = none := by kernel_rfl

/-! ### STEP 1: THE WALK: the Go text returns true. 'Gr w w'': the world has at most new blocks (Derived/RowKit3.lean). Part the cases AHEAD of 'go_enter' where a test parts the walk; take each callee by a contract of your own. -/
set_option maxRecDepth 100000 in
set_option maxHeartbeats 8000000 in
theorem walk (a0 : Int) (a1 : Int) (a2 : Int) (w0 : (Lit.int .i64 a0).wf = true) (w1 : (Lit.int .i64 a1).wf = true) (w2 : (Lit.int .u16 a2).wf = true) (w : World) :
    Calls Try.prog 7 #[.int .i64 a0, .int .i64 a1, .int .u16 a2] w fun e w' => e = .returned (.bool true) ∧ Gr w w' := by
  simp only [Lit.wf, Bool.and_eq_true, decide_eq_true_eq] at w2
  have r0 : 0 ≤ a2 := by simp [IntKind.min, IntKind.signed] at w2; omega
  have r1 : a2 ≤ 65535 := by simp [IntKind.max, IntKind.signed, IntKind.bits] at w2; omega
  clear w0 w1 w2
  by_cases ht : Task a0 a1
  · have h1 := ht.e1; have h2 := ht.ep; have h3 := ht.pm
    by_cases hb : a0 ≤ 2000
    · have hd : decide (a0 > 2000) = false := by simp; omega
      obtain ⟨hv, hk⟩ := kind_ex ht
      have q1 : Quan a0 a1 1 := ⟨ht, by omega, h1⟩
      have c0 := fun W => of_row W q1 hk r0 r1
      have C0 := Lib.hid c0
      clear c0
      go_enter Try.func7, Try.ntmps7
      go_wp2_with fail
      refine (awake_true _).mono ?_
      rintro q w1 ⟨rfl, g1⟩
      go_wp2_with fail
      refine (taskMay_yes _ _ _ ht).mono ?_
      rintro q w2 ⟨rfl, rfl⟩
      go_wp2_with fail
      refine (C0.out _).mono ?_
      rintro q w2 ⟨rfl, g2⟩
      go_wp2_with fail
      go_loopw [8] (fun s W => RowsRel hv a0 a1 a2 w w2.heap.size s W) (fun s _ => (a0 + 2 - intOf s).toNat)
      case atStart => exact ⟨1, rfl, by omega, h1, (g1.trans g2).alloc _, Box.new _ _ _⟩
      case round =>
        obtain ⟨i, rfl, hi1, hi2, gw, bx⟩ := hrel
        have hB : w.heap.size ≤ w2.heap.size := (g1.trans g2).size
        clear g1 g2 C0
        generalize w2.heap.size = B at *
        by_cases hlt : i + 1 ≤ a0
        · have qi : Quan a0 a1 (i + 1) := ⟨ht, by omega, hlt⟩
          obtain ⟨s1, s2, s3, s4⟩ := row_step (r := a2) (i := i) ht hk
          have ci := fun W => of_row W qi hk r0 r1
          have l1 := fun W => less_any (rowR hv a0 a1 a2 i) (rowR hv a0 a1 a2 (i + 1)) W
          have l2 := fun W => less_any (rowR hv a0 a1 a2 (i + 1)) (rowR hv a0 a1 a2 i) W
          rw [s1] at l1
          rw [s2] at l2
          clear s1 s2
          generalize rowR hv a0 a1 a2 i = x at *
          generalize hy : rowR hv a0 a1 a2 (i + 1) = y at *
          obtain ⟨xd, xb, xg, xi⟩ := x
          obtain ⟨yd, yb, yg, yi⟩ := y
          have CI := Lib.hid ci
          have L1 := Lib.hid l1
          have L2 := Lib.hid l2
          have HY := Lib.hid hy
          clear ci l1 l2 hy
          simp only at s3 s4
          have t1 : decide (yd ≤ xd) = false := by simp; omega
          have t2 : decide (yg < xg) = false := by simp; omega
          go_wp2_with fail
          refine (CI.out _).mono ?_
          rintro q w3 ⟨rfl, g3⟩
          have b3 := bx.keep g3
          have lt3 := b3.lt
          have k0 := (b3.alloc (.cells #[.int .i64 yd, .int .i64 yb, .int .i64 yg, .int .i64 yi] 26)).c0
          have k1 := (b3.alloc (.cells #[.int .i64 yd, .int .i64 yb, .int .i64 yg, .int .i64 yi] 26)).c1
          have k2 := (b3.alloc (.cells #[.int .i64 yd, .int .i64 yb, .int .i64 yg, .int .i64 yi] 26)).c2
          have k3 := (b3.alloc (.cells #[.int .i64 yd, .int .i64 yb, .int .i64 yg, .int .i64 yi] 26)).c3
          go_wp2_with fail
          clear k0 k1 k2 k3
          refine (L1.out _).mono ?_
          rintro q w4 ⟨rfl, g4⟩
          have b4 := (b3.alloc (.cells #[.int .i64 yd, .int .i64 yb, .int .i64 yg, .int .i64 yi] 26)).keep g4
          have n4 := (Box.new w3 ⟨yd, yb, yg, yi⟩ 26).keep g4
          have k0 := b4.c0; have k1 := b4.c1; have k2 := b4.c2; have k3 := b4.c3
          have m0 := n4.c0; have m1 := n4.c1; have m2 := n4.c2; have m3 := n4.c3
          go_wp2_with fail
          clear k0 k1 k2 k3 m0 m1 m2 m3
          refine (L2.out _).mono ?_
          rintro q w5 ⟨rfl, g5⟩
          have b5 := b4.keep g5
          have n5 := n4.keep g5
          have k0 := b5.c0; have k1 := b5.c1; have k2 := b5.c2; have k3 := b5.c3; have kf := b5.f0
          have m0 := n5.c0; have m1 := n5.c1; have m2 := n5.c2; have m3 := n5.c3
          go_wp2
          go_roundw
          case rel =>
            refine ⟨i + 1, rfl, by omega, hlt, ?_, ?_⟩
            · exact ((((gw.trans (g3.trans ((((Gr.refl _).alloc _).trans g4).trans g5))).set hB _ _).set hB _ _).set hB _ _).set hB _ _
            · rw [HY.out]; exact b5.set (y := ⟨yd, yb, yg, yi⟩)
          case measure => simp [intOf]; omega
        · have hi : i = a0 := by omega
          have e1 : (rowR hv a0 a1 a2 i).d = a2 + a1 := by rw [hi]; show a2 + dl a0 a1 a0 = _; rw [dl_last h1]
          have e2 : (rowR hv a0 a1 a2 i).b = 0 := by rw [hi]; show bt a0 a1 a0 = _; rw [bt_last h1]
          have k0 := bx.c0; have k1 := bx.c1
          rw [e1] at k0
          rw [e2] at k1
          clear e1 e2
          go_wp2
          go_ret
          exact ⟨rfl, gw⟩
    · have hd : decide (a0 > 2000) = true := by simp; omega
      go_enter Try.func7, Try.ntmps7
      go_wp2_with fail
      refine (awake_true _).mono ?_
      rintro q w1 ⟨rfl, g1⟩
      go_wp2_with fail
      refine (taskMay_yes _ _ _ ht).mono ?_
      rintro q w2 ⟨rfl, rfl⟩
      go_wp2
      go_ret
      exact ⟨rfl, g1⟩
  · go_enter Try.func7, Try.ntmps7
    go_wp2_with fail
    refine (awake_true _).mono ?_
    rintro q w1 ⟨rfl, g1⟩
    go_wp2_with fail
    refine (taskMay_no _ _ _ ht).mono ?_
    rintro q w2 ⟨rfl, rfl⟩
    go_wp2
    go_ret
    exact ⟨rfl, g1⟩

/-! ### THE ROW's STEP: WRITTEN OUT: LEAVE IT -/
set_option maxRecDepth 100000 in
theorem lifted (os : Os) (started : os.Started) (H : Type) (enc : TypeId × Value → H) :
    ReturnsInHanded {} Try.checked os 7 .any (Rows.rankRowsSpec.pre6 enc Try.prog Try.f7 Rows.rankRowsRow.domain false) (Rows.rankRowsSpec.post enc Try.prog Try.f7 false true false false) := by
  refine returnsInHanded_of_change (C := Try.checked) own started (by kernel_rfl) Try.func7
    (ChangeSpec.witness6 (enc := enc) (C := Try.checked) false ⟨#[], #[.int .i64 0, .int .i64 0, .int .u16 0], []⟩ 8 (by kernel_rfl) (by kernel_rfl) (by kernel_rfl) (by kernel_rfl)) ?_
  intro W base args ds gs before hval0 hW hcnd _
  have hval : ∀ (j : Nat) t v, Try.f7.params[j]? = some t → args[j]? = some v → Value.okWide Try.prog W .any base t v := hval0
  have hW' := hW
  obtain ⟨p, q, hA0, hV, rfl, hfz, hnd⟩ := hW
  have hA : DataW.TrodAll enc Try.prog W 0 (fun _ => true) true Try.f7.params.toList args.toList ds p := hA0
  rw [Try.params7] at hA hval
  obtain ⟨v0, vs0, d0, ds0, p0, q0, hargs, rfl, rfl, h0, r0⟩ := trodAll_cons hA
  obtain ⟨v1, vs1, d1, ds1, p1, q1, rfl, rfl, rfl, h1, r1⟩ := trodAll_cons r0
  obtain ⟨v2, vs2, d2, ds2, p2, q2, rfl, rfl, rfl, h2, r2⟩ := trodAll_cons r1
  obtain ⟨rfl, rfl, rfl⟩ := trodAll_nil r2
  obtain rfl : args = #[v0, v1, v2] := by cases args; simp_all
  obtain ⟨rfl, rfl⟩ := trodVars_none hV
  obtain ⟨a0, rfl, rfl, rfl, w0⟩ := open_int Try.underlying3 (hval 0 3 v0 rfl rfl) h0
  obtain ⟨a1, rfl, rfl, rfl, w1⟩ := open_int Try.underlying3 (hval 1 3 v1 rfl rfl) h1
  obtain ⟨a2, rfl, rfl, rfl, w2⟩ := open_int Try.underlying38 (hval 2 38 v2 rfl rfl) h2
  clear hA0 hval0
  simp only [List.append_nil] at hW'
  refine (walk a0 a1 a2 w0 w1 w2 W).mono fun e W' ⟨he, hg⟩ => ?_
  subst he
  exact ⟨_, rfl, post_gr (pa := []) (pv := []) hW' (fun _ _ _ => (trodAll_cons_mk (shut_bool Try.underlying4 _) trodAll_mk0)) (fun sp _ => (trodAll_cons_mk (shut_int Try.underlying3 w0) (trodAll_cons_mk (shut_int Try.underlying3 w1) (trodAll_cons_mk (shut_int Try.underlying38 w2) trodAll_mk0)))) (fun _ _ => rfl) rfl
    hg (ok_one (by kernel_rfl) rfl (okWide_bool_mk Try.underlying4 _))⟩

theorem over : Rows.rankRowsRow.holds Try.pinned (OpenSpec.ofChange Rows.rankRowsSpec) :=
  OpenClaim.holds_of_wide 7 Try.f7 rfl rfl rfl rfl rfl rfl rfl ⟨rfl, rfl, rfl, rfl, rfl⟩ rfl rfl rfl rfl rfl (by kernel_rfl) Try.func7 (by kernel_rfl)
    (of_decide_eq_true (by kernel_rfl)) (by unfold Func.isWrapper; first | (rw [if_pos (by decide +kernel)]; kernel_rfl) | (rw [if_neg (by decide +kernel)]; exact ⟨rfl, rfl⟩))
    (fun os started H enc _ => lifted os started H enc)

/-- ████ THE STATEMENT ████ -/
theorem proved : Rows.RankRowsSaid :=
  over
#print axioms proved
end Go.Proofs.Ytpaiaoaffoeleaa.rankRows
