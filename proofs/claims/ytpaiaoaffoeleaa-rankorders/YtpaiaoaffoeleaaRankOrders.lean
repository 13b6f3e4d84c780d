/- The law RankOrders of package evenhandedlaw4 answers true for every input: of any two ranks which goes first, of any subtask what its rank is, as the document says. No condition. -/
import Derived.Test.YtpaiaoaffoeleaaRows
import Derived.WalkKit
import Derived.ProofKit
import Derived.OpenShut
import Derived.ShutString
import Derived.Test.YtpaiaoaffoeleaaG4
import Derived.Test.YtpaiaoaffoeleaaS4
namespace Go.Proofs.Ytpaiaoaffoeleaa.rankOrders
open Go.ChangeShapes Go.WideShapes Go.ChangeAt Go.RowKit
open Go.ChangeMaps (open_string shut_string)
set_option linter.unusedVariables false      -- a walk need not use every 'w<i>' (that an integer argument fits its kind)

theorem cells23 : Try.prog.cellsOf 23 = 4 := by kernel_rfl
theorem cells24 : Try.prog.cellsOf 24 = 5 := by kernel_rfl
theorem cells3 : Try.prog.cellsOf 3 = 1 := by kernel_rfl
theorem own : ownKnob Try.prog.godebug = none := by kernel_rfl

/-! ### STEP 1: THE WALK: the Go text returns true. 'Gr w w'': the world has at most new blocks (Derived/RowKit3.lean). Part the cases AHEAD of 'go_enter' where a test parts the walk; take each callee by a contract of your own. -/
set_option maxRecDepth 100000 in
set_option maxHeartbeats 8000000 in
theorem walk (a0 : Int) (a1 : Int) (a2 : Int) (a3 : Int) (a4 : Int) (a5 : Int) (a6 : Int) (a7 : Int) (a8 : Int) (a9 : Int) (a10 : Int) (a11 : Int) (a12 : Int) (w0 : (Lit.int .i64 a0).wf = true) (w1 : (Lit.int .i64 a1).wf = true) (w2 : (Lit.int .i64 a2).wf = true) (w3 : (Lit.int .i64 a3).wf = true) (w4 : (Lit.int .i64 a4).wf = true) (w5 : (Lit.int .i64 a5).wf = true) (w6 : (Lit.int .i64 a6).wf = true) (w7 : (Lit.int .i64 a7).wf = true) (w8 : (Lit.int .i64 a8).wf = true) (w9 : (Lit.int .i64 a9).wf = true) (w10 : (Lit.int .i64 a10).wf = true) (w11 : (Lit.int .i64 a11).wf = true) (w12 : (Lit.int .i64 a12).wf = true) (w : World) :
    Calls Try.prog 3 #[.agg #[.int .i64 a0, .int .i64 a1, .int .i64 a2, .int .i64 a3], .agg #[.int .i64 a4, .int .i64 a5, .int .i64 a6, .int .i64 a7], .agg #[.int .i64 a8, .int .i64 a9, .int .i64 a10, .int .i64 a11, .int .i64 a12]] w fun e w' => e = .returned (.bool true) ∧ Gr w w' := by
  clear w0 w1 w2 w3 w4 w5 w6 w7 w8 w9 w10 w11 w12
  obtain ⟨v, hv⟩ := isOf_ex a8 a9 a10 a11 a12
  have c9 := fun W => of_at W hv
  have c13 := fun W => rankOf_at W hv
  clear hv
  obtain ⟨vd, vb, vg, vi⟩ := v
  have c10 := fun W => less4 a0 a1 a2 a3 a4 a5 a6 a7 W
  have c12 := fun W => rless4 a0 a1 a2 a3 a4 a5 a6 a7 W
  generalize lessB ⟨a0, a1, a2, a3⟩ ⟨a4, a5, a6, a7⟩ = p at c10 c12
  have C9 := Lib.hid c9
  have C10 := Lib.hid c10
  have C12 := Lib.hid c12
  have C13 : Hid (∀ W, Calls Try.prog 13 #[.int .i64 a8, .int .i64 a9, .int .i64 a10, .int .i64 a11, .int .i64 a12] W fun q w' => q = .returned (.agg #[.int .i64 vd, .int .i64 vb, .int .i64 vg, .int .i64 vi]) ∧ ∃ q os', w' = Sort.grow (W.drewN q) os') := c13
  clear c9 c10 c12 c13
  have hbeq : (p == p) = true := by simp
  have mixed : Try.prog.follows .mixedOrders = true := by kernel_rfl
  by_cases hr1 : a11 < -1099511627776
  · have r1 : decide (a11 < -1099511627776) = true := by simp; omega
    go_enter Try.func3, Try.ntmps3
    go_wp2_with fail
    refine (awake_true _).mono ?_
    rintro q w1 ⟨rfl, g1⟩
    have fn := ((Five.new ((w.alloc (.cells #[.int .i64 a0, .int .i64 a1, .int .i64 a2, .int .i64 a3] 23)).alloc (.cells #[.int .i64 a4, .int .i64 a5, .int .i64 a6, .int .i64 a7] 23)) a8 a9 a10 a11 a12 24).keep g1).at (B' := w.heap.size + 2) (by simp)
    have n0 := fn.c0; have n1 := fn.c1; have n2 := fn.c2; have n3 := fn.c3; have n4 := fn.c4
    go_wp2_with fail
    refine (C9.out _).mono ?_
    rintro q w2 ⟨rfl, g2⟩
    replace fn := fn.keep (g2.alloc (.cells #[.int .i64 vd, .int .i64 vb, .int .i64 vg, .int .i64 vi] 26))
    clear n0 n1 n2 n3 n4
    have n3 := fn.c3
    go_wp2
    go_ret
    exact ⟨rfl, ((((Gr.refl _).alloc _).alloc _).alloc _).trans ((g1.trans g2).alloc _)⟩
  · have r1 : decide (a11 < -1099511627776) = false := by simp; omega
    by_cases hr2 : a11 > 1099511627776
    · have r2 : decide (a11 > 1099511627776) = true := by simp; omega
      go_enter Try.func3, Try.ntmps3
      go_wp2_with fail
      refine (awake_true _).mono ?_
      rintro q w1 ⟨rfl, g1⟩
      have fn := ((Five.new ((w.alloc (.cells #[.int .i64 a0, .int .i64 a1, .int .i64 a2, .int .i64 a3] 23)).alloc (.cells #[.int .i64 a4, .int .i64 a5, .int .i64 a6, .int .i64 a7] 23)) a8 a9 a10 a11 a12 24).keep g1).at (B' := w.heap.size + 2) (by simp)
      have n0 := fn.c0; have n1 := fn.c1; have n2 := fn.c2; have n3 := fn.c3; have n4 := fn.c4
      go_wp2_with fail
      refine (C9.out _).mono ?_
      rintro q w2 ⟨rfl, g2⟩
      replace fn := fn.keep (g2.alloc (.cells #[.int .i64 vd, .int .i64 vb, .int .i64 vg, .int .i64 vi] 26))
      clear n0 n1 n2 n3 n4
      have n3 := fn.c3
      go_wp2
      go_ret
      exact ⟨rfl, ((((Gr.refl _).alloc _).alloc _).alloc _).trans ((g1.trans g2).alloc _)⟩
    · have r2 : decide (a11 > 1099511627776) = false := by simp; omega
      go_enter Try.func3, Try.ntmps3
      go_wp2_with fail
      refine (awake_true _).mono ?_
      rintro q w1 ⟨rfl, g1⟩
      have fn := ((Five.new ((w.alloc (.cells #[.int .i64 a0, .int .i64 a1, .int .i64 a2, .int .i64 a3] 23)).alloc (.cells #[.int .i64 a4, .int .i64 a5, .int .i64 a6, .int .i64 a7] 23)) a8 a9 a10 a11 a12 24).keep g1).at (B' := w.heap.size + 2) (by simp)
      have n0 := fn.c0; have n1 := fn.c1; have n2 := fn.c2; have n3 := fn.c3; have n4 := fn.c4
      have ba := (((Box.new w ⟨a0, a1, a2, a3⟩ 23).alloc _).alloc _).keep g1
      have bb := (((Box.new (w.alloc (.cells #[.int .i64 a0, .int .i64 a1, .int .i64 a2, .int .i64 a3] 23)) ⟨a4, a5, a6, a7⟩ 23).alloc _).keep g1).at (B' := w.heap.size + 1) (by simp)
      go_wp2_with fail
      refine (C9.out _).mono ?_
      rintro q w2 ⟨rfl, g2⟩
      clear n0 n1 n2 n3 n4
      have n3 := (fn.keep (g2.alloc (.cells #[.int .i64 vd, .int .i64 vb, .int .i64 vg, .int .i64 vi] 26))).c3
      go_wp2_with fail
      clear n3
      replace fn := fn.keep (g2.alloc (.cells #[.int .i64 vd, .int .i64 vb, .int .i64 vg, .int .i64 vi] 26))
      replace ba := ba.keep (g2.alloc (.cells #[.int .i64 vd, .int .i64 vb, .int .i64 vg, .int .i64 vi] 26))
      replace bb := bb.keep (g2.alloc (.cells #[.int .i64 vd, .int .i64 vb, .int .i64 vg, .int .i64 vi] 26))
      have bx := Box.new w2 ⟨vd, vb, vg, vi⟩ 26
      have gw := ((((Gr.refl w).alloc (.cells #[.int .i64 a0, .int .i64 a1, .int .i64 a2, .int .i64 a3] 23)).alloc (.cells #[.int .i64 a4, .int .i64 a5, .int .i64 a6, .int .i64 a7] 23)).alloc (.cells #[.int .i64 a8, .int .i64 a9, .int .i64 a10, .int .i64 a11, .int .i64 a12] 24)).trans ((g1.trans g2).alloc (.cells #[.int .i64 vd, .int .i64 vb, .int .i64 vg, .int .i64 vi] 26))
      generalize w2.heap.size = Bx at *
      generalize w2.alloc (.cells #[.int .i64 vd, .int .i64 vb, .int .i64 vg, .int .i64 vi] 26) = W at *
      clear g1 g2
      have n0 := grc fn.c0; have n1 := grc fn.c1; have n2 := grc fn.c2; have n3 := grc fn.c3; have n4 := grc fn.c4
      have p0 := grc ba.c0; have p1 := grc ba.c1; have p2 := grc ba.c2; have p3 := grc ba.c3
      have q0 := grc bb.c0; have q1 := grc bb.c1; have q2 := grc bb.c2; have q3 := grc bb.c3
      have x0 := grc bx.c0; have x1 := grc bx.c1; have x2 := grc bx.c2; have x3 := grc bx.c3
      clear fn ba bb bx
      go_quiet_grown (first | (go_at_call 11; refine Calls.grown_of (made4 _ _ _ _ _)) | (go_at_call 10; refine Calls.grown_of (C10.out _)) | (go_at_call 12; refine Calls.grown_of (C12.out _)) | (go_at_call 13; refine Calls.grown_of (C13.out _)))
      go_wp2
      go_ret
      exact ⟨rfl, gw.trans ⟨_, _, rfl⟩⟩

/-! ### THE ROW's STEP: WRITTEN OUT: LEAVE IT -/
set_option maxRecDepth 100000 in
theorem lifted (os : Os) (started : os.Started) (H : Type) (enc : TypeId × Value → H) :
    ReturnsInHanded {} Try.checked os 3 .any (Rows.rankOrdersSpec.pre6 enc Try.prog Try.f3 Rows.rankOrdersRow.domain false) (Rows.rankOrdersSpec.post enc Try.prog Try.f3 false true false false) := by
  refine returnsInHanded_of_change (C := Try.checked) own started (by kernel_rfl) Try.func3
    (ChangeSpec.witness6 (enc := enc) (C := Try.checked) false ⟨#[], #[.agg #[.int .i64 0, .int .i64 0, .int .i64 0, .int .i64 0], .agg #[.int .i64 0, .int .i64 0, .int .i64 0, .int .i64 0], .agg #[.int .i64 0, .int .i64 0, .int .i64 0, .int .i64 0, .int .i64 0]], []⟩ 8 (by kernel_rfl) (by kernel_rfl) (by kernel_rfl) (by kernel_rfl)) ?_
  intro W base args ds gs before hval0 hW hcnd _
  have hval : ∀ (j : Nat) t v, Try.f3.params[j]? = some t → args[j]? = some v → Value.okWide Try.prog W .any base t v := hval0
  have hW' := hW
  obtain ⟨p, q, hA0, hV, rfl, hfz, hnd⟩ := hW
  have hA : DataW.TrodAll enc Try.prog W 0 (fun _ => true) true Try.f3.params.toList args.toList ds p := hA0
  rw [Try.params3] at hA hval
  obtain ⟨v0, vs0, d0, ds0, p0, q0, hargs, rfl, rfl, h0, r0⟩ := trodAll_cons hA
  obtain ⟨v1, vs1, d1, ds1, p1, q1, rfl, rfl, rfl, h1, r1⟩ := trodAll_cons r0
  obtain ⟨v2, vs2, d2, ds2, p2, q2, rfl, rfl, rfl, h2, r2⟩ := trodAll_cons r1
  obtain ⟨rfl, rfl, rfl⟩ := trodAll_nil r2
  obtain rfl : args = #[v0, v1, v2] := by cases args; simp_all
  obtain ⟨rfl, rfl⟩ := trodVars_none hV
  obtain ⟨a0, a1, a2, a3, rfl, rfl, rfl, w0, w1, w2, w3⟩ := open_rk Try.underlying23 (by kernel_rfl) cells23 Try.underlying3 Try.underlying3 Try.underlying3 Try.underlying3 (hval 0 23 v0 rfl rfl) h0
  obtain ⟨a4, a5, a6, a7, rfl, rfl, rfl, w4, w5, w6, w7⟩ := open_rk Try.underlying23 (by kernel_rfl) cells23 Try.underlying3 Try.underlying3 Try.underlying3 Try.underlying3 (hval 1 23 v1 rfl rfl) h1
  obtain ⟨a8, a9, a10, a11, a12, rfl, rfl, rfl, w8, w9, w10, w11, w12⟩ := open_five Try.underlying24 Try.underlying3 cells24 cells3 (hval 2 24 v2 rfl rfl) h2
  clear hA0 hval0
  simp only [List.append_nil] at hW'
  refine (walk a0 a1 a2 a3 a4 a5 a6 a7 a8 a9 a10 a11 a12 w0 w1 w2 w3 w4 w5 w6 w7 w8 w9 w10 w11 w12 W).mono fun e W' ⟨he, hg⟩ => ?_
  subst he
  exact ⟨_, rfl, post_gr (pa := []) (pv := []) hW' (fun _ _ _ => (trodAll_cons_mk (shut_bool Try.underlying4 _) trodAll_mk0)) (fun sp _ => (trodAll_cons_mk (shut_rk Try.underlying23 (by kernel_rfl) cells23 Try.underlying3 Try.underlying3 Try.underlying3 Try.underlying3 w0 w1 w2 w3) (trodAll_cons_mk (shut_rk Try.underlying23 (by kernel_rfl) cells23 Try.underlying3 Try.underlying3 Try.underlying3 Try.underlying3 w4 w5 w6 w7) (trodAll_cons_mk (shut_five Try.underlying24 Try.underlying3 cells24 cells3 w8 w9 w10 w11 w12) trodAll_mk0)))) (fun _ _ => rfl) rfl
    hg (ok_one (by kernel_rfl) rfl (okWide_bool_mk Try.underlying4 _))⟩

theorem over : Rows.rankOrdersRow.holds Try.pinned (OpenSpec.ofChange Rows.rankOrdersSpec) :=
  OpenClaim.holds_of_wide 3 Try.f3 rfl rfl rfl rfl rfl rfl rfl ⟨rfl, rfl, rfl, rfl, rfl⟩ rfl rfl rfl rfl rfl (by kernel_rfl) Try.func3 (by kernel_rfl)
    (of_decide_eq_true (by kernel_rfl)) (by unfold Func.isWrapper; first | (rw [if_pos (by decide +kernel)]; kernel_rfl) | (rw [if_neg (by decide +kernel)]; exact ⟨rfl, rfl⟩))
    (fun os started H enc _ => lifted os started H enc)

/-- ████ THE STATEMENT ████ -/
theorem proved : Rows.RankOrdersSaid :=
  over
#print axioms proved
end Go.Proofs.Ytpaiaoaffoeleaa.rankOrders
