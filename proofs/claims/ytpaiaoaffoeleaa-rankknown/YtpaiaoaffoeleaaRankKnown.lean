/- The law RankKnown of package evenhandedlaw4 answers true: ranks by hand, sorted and compared, are what the document says. No condition. -/
import Derived.Test.YtpaiaoaffoeleaaRows
import Derived.WalkKit
import Derived.ProofKit
import Derived.OpenShut
import Derived.ShutString
import Derived.Test.YtpaiaoaffoeleaaK4
import Derived.Test.YtpaiaoaffoeleaaJ4
import Derived.Test.YtpaiaoaffoeleaaS4
namespace Go.Proofs.Ytpaiaoaffoeleaa.rankKnown
open Go.ChangeShapes Go.WideShapes Go.ChangeAt Go.RowKit
open Go.ChangeMaps (open_string shut_string)
set_option linter.unusedVariables false      -- a walk need not use every 'w<i>' (that an integer argument fits its kind)

theorem own : ownKnob Try.prog.godebug = none := by kernel_rfl

/-! ### STEP 1: THE WALK: the Go text returns true. 'Gr w w'': the world has at most new blocks (Derived/RowKit3.lean). Part the cases AHEAD of 'go_enter' where a test parts the walk; take each callee by a contract of your own. -/
set_option maxRecDepth 100000 in
set_option maxHeartbeats 8000000 in
theorem walk  (w : World) :
    Calls Try.prog 6 #[] w fun e w' => e = .returned (.bool true) ∧ Gr w w' := by
  have q1 : Quan 8 11 3 := ⟨⟨by omega, by omega, by omega⟩, by omega, by omega⟩
  have q2 : Quan 1 1 1 := ⟨⟨by omega, by omega, by omega⟩, by omega, by omega⟩
  have q3 : ¬ Quan 0 1 1 := fun h => by have := h.e1; omega
  have c1 := fun W => of_heavy 8 11 3 100 7 5 1 8 105 108 W q1 (by omega) (by omega) (by decide) (by decide) (by decide) (by decide) (by decide)
  have c2 : ∀ W, Calls Try.prog 9 #[.int .i64 0, .int .i64 1, .int .i64 1, .int .i64 5, .int .i64 3] W fun e w' => e = .returned (.agg #[.int .i64 0, .int .i64 0, .int .i64 0, .int .i64 3]) ∧ ∃ q os', w' = Sort.grow (W.drewN q) os' := fun W => of_no 0 1 1 5 3 W q3
  have c3 : ∀ W, Calls Try.prog 9 #[.int .i64 1, .int .i64 1, .int .i64 1, .int .i64 5, .int .i64 3] W fun e w' => e = .returned (.agg #[.int .i64 6, .int .i64 0, .int .i64 0, .int .i64 3]) ∧ ∃ q os', w' = Sort.grow (W.drewN q) os' := fun W => of_flat 1 1 1 5 3 1 0 6 W q2 (.inr rfl) (by decide) (by decide) (by decide)
  have l1 : ∀ W, Calls Try.prog 10 #[.agg #[.int .i64 105, .int .i64 1, .int .i64 109, .int .i64 9], .agg #[.int .i64 105, .int .i64 1, .int .i64 108, .int .i64 7]] W fun e w' => e = .returned (.bool true) ∧ ∃ q os', w' = Sort.grow (W.drewN q) os' := fun W => less4 105 1 109 9 105 1 108 7 W
  have l2 : ∀ W, Calls Try.prog 10 #[.agg #[.int .i64 105, .int .i64 1, .int .i64 108, .int .i64 7], .agg #[.int .i64 105, .int .i64 0, .int .i64 0, .int .i64 1]] W fun e w' => e = .returned (.bool true) ∧ ∃ q os', w' = Sort.grow (W.drewN q) os' := fun W => less4 105 1 108 7 105 0 0 1 W
  have l3 : ∀ W, Calls Try.prog 10 #[.agg #[.int .i64 104, .int .i64 0, .int .i64 0, .int .i64 99], .agg #[.int .i64 105, .int .i64 1, .int .i64 109, .int .i64 9]] W fun e w' => e = .returned (.bool true) ∧ ∃ q os', w' = Sort.grow (W.drewN q) os' := fun W => less4 104 0 0 99 105 1 109 9 W
  have s4 := sort4
  rw [flat_q4] at s4
  have C1 := Lib.hid c1
  have C2 := Lib.hid c2
  have C3 := Lib.hid c3
  have L1 := Lib.hid l1
  have L2 := Lib.hid l2
  have L3 := Lib.hid l3
  have S4 := Lib.hid s4
  clear c1 c2 c3 l1 l2 l3 s4 q1 q2 q3
  have mixed : Try.prog.follows .mixedOrders = true := by kernel_rfl
  go_enter Try.func6, Try.ntmps6
  go_wp2_with fail
  refine (awake_true _).mono ?_
  rintro q w1 ⟨rfl, g1⟩
  go_wp2_with fail
  refine (C1.out _).mono ?_
  rintro q w2 ⟨rfl, g2⟩
  go_wp2_with fail
  have ba := ((((Box.new w2 ⟨105, 1, 108, 7⟩ 26).alloc (.cells #[.int .i64 105, .int .i64 1, .int .i64 109, .int .i64 9] 26)).alloc (.cells #[.int .i64 105, .int .i64 0, .int .i64 0, .int .i64 1] 26)).alloc (.cells #[.int .i64 104, .int .i64 0, .int .i64 0, .int .i64 99] 26)).alloc (.cells #[.int .i64 105, .int .i64 0, .int .i64 0, .int .i64 1, .int .i64 105, .int .i64 1, .int .i64 108, .int .i64 7, .int .i64 104, .int .i64 0, .int .i64 0, .int .i64 99, .int .i64 105, .int .i64 1, .int .i64 109, .int .i64 9] 26)
  have bb := ((((Box.new (w2.alloc (.cells #[.int .i64 105, .int .i64 1, .int .i64 108, .int .i64 7] 26)) ⟨105, 1, 109, 9⟩ 26).alloc (.cells #[.int .i64 105, .int .i64 0, .int .i64 0, .int .i64 1] 26)).alloc (.cells #[.int .i64 104, .int .i64 0, .int .i64 0, .int .i64 99] 26)).alloc (.cells #[.int .i64 105, .int .i64 0, .int .i64 0, .int .i64 1, .int .i64 105, .int .i64 1, .int .i64 108, .int .i64 7, .int .i64 104, .int .i64 0, .int .i64 0, .int .i64 99, .int .i64 105, .int .i64 1, .int .i64 109, .int .i64 9] 26)).at (B' := w2.heap.size + 1) (by simp)
  have bc := (((Box.new ((w2.alloc (.cells #[.int .i64 105, .int .i64 1, .int .i64 108, .int .i64 7] 26)).alloc (.cells #[.int .i64 105, .int .i64 1, .int .i64 109, .int .i64 9] 26)) ⟨105, 0, 0, 1⟩ 26).alloc (.cells #[.int .i64 104, .int .i64 0, .int .i64 0, .int .i64 99] 26)).alloc (.cells #[.int .i64 105, .int .i64 0, .int .i64 0, .int .i64 1, .int .i64 105, .int .i64 1, .int .i64 108, .int .i64 7, .int .i64 104, .int .i64 0, .int .i64 0, .int .i64 99, .int .i64 105, .int .i64 1, .int .i64 109, .int .i64 9] 26)).at (B' := w2.heap.size + 2) (by simp)
  have bd := ((Box.new (((w2.alloc (.cells #[.int .i64 105, .int .i64 1, .int .i64 108, .int .i64 7] 26)).alloc (.cells #[.int .i64 105, .int .i64 1, .int .i64 109, .int .i64 9] 26)).alloc (.cells #[.int .i64 105, .int .i64 0, .int .i64 0, .int .i64 1] 26)) ⟨104, 0, 0, 99⟩ 26).alloc (.cells #[.int .i64 105, .int .i64 0, .int .i64 0, .int .i64 1, .int .i64 105, .int .i64 1, .int .i64 108, .int .i64 7, .int .i64 104, .int .i64 0, .int .i64 0, .int .i64 99, .int .i64 105, .int .i64 1, .int .i64 109, .int .i64 9] 26)).at (B' := w2.heap.size + 3) (by simp)
  have gw : Gr w (((((w2.alloc (.cells #[.int .i64 105, .int .i64 1, .int .i64 108, .int .i64 7] 26)).alloc (.cells #[.int .i64 105, .int .i64 1, .int .i64 109, .int .i64 9] 26)).alloc (.cells #[.int .i64 105, .int .i64 0, .int .i64 0, .int .i64 1] 26)).alloc (.cells #[.int .i64 104, .int .i64 0, .int .i64 0, .int .i64 99] 26)).alloc (.cells #[.int .i64 105, .int .i64 0, .int .i64 0, .int .i64 1, .int .i64 105, .int .i64 1, .int .i64 108, .int .i64 7, .int .i64 104, .int .i64 0, .int .i64 0, .int .i64 99, .int .i64 105, .int .i64 1, .int .i64 109, .int .i64 9] 26)) := (g1.trans g2).trans ((((((Gr.refl w2).alloc _).alloc _).alloc _).alloc _).alloc _)
  obtain ⟨B, hB⟩ : ∃ B, (((((w2.alloc (.cells #[.int .i64 105, .int .i64 1, .int .i64 108, .int .i64 7] 26)).alloc (.cells #[.int .i64 105, .int .i64 1, .int .i64 109, .int .i64 9] 26)).alloc (.cells #[.int .i64 105, .int .i64 0, .int .i64 0, .int .i64 1] 26)).alloc (.cells #[.int .i64 104, .int .i64 0, .int .i64 0, .int .i64 99] 26)).alloc (.cells #[.int .i64 105, .int .i64 0, .int .i64 0, .int .i64 1, .int .i64 105, .int .i64 1, .int .i64 108, .int .i64 7, .int .i64 104, .int .i64 0, .int .i64 0, .int .i64 99, .int .i64 105, .int .i64 1, .int .i64 109, .int .i64 9] 26)).heap.size = B := ⟨_, rfl⟩
  have c4 := S4.out _ B hB
  have hz : ((((w2.alloc (.cells #[.int .i64 105, .int .i64 1, .int .i64 108, .int .i64 7] 26)).alloc (.cells #[.int .i64 105, .int .i64 1, .int .i64 109, .int .i64 9] 26)).alloc (.cells #[.int .i64 105, .int .i64 0, .int .i64 0, .int .i64 1] 26)).alloc (.cells #[.int .i64 104, .int .i64 0, .int .i64 0, .int .i64 99] 26)).heap.size = w2.heap.size + 4 := by simp
  rw [hz] at c4
  clear hB hz
  refine c4.mono ?_
  rintro q w3 ⟨rfl, r4, g3⟩
  replace ba := ba.keep g3
  replace bb := bb.keep g3
  replace bc := bc.keep g3
  replace bd := bd.keep g3
  replace gw := gw.trans g3
  clear g1 g2 g3 c4 S4 C1
  generalize w2.heap.size = A at *
  go_wp2_with fail
  have p0 := grc ba.c0; have p1 := grc ba.c1; have p2 := grc ba.c2; have p3 := grc ba.c3
  have q0 := grc bb.c0; have q1 := grc bb.c1; have q2 := grc bb.c2; have q3 := grc bb.c3
  have x0 := grc bc.c0; have x1 := grc bc.c1; have x2 := grc bc.c2; have x3 := grc bc.c3
  have y0 := grc bd.c0; have y1 := grc bd.c1; have y2 := grc bd.c2; have y3 := grc bd.c3
  have e0 := grc r4.a0; have e1 := grc r4.a1; have e2 := grc r4.a2; have e3 := grc r4.a3
  have f0 := grc r4.b0; have f1 := grc r4.b1; have f2 := grc r4.b2; have f3 := grc r4.b3
  have h0 := grc r4.c0; have h1 := grc r4.c1; have h2 := grc r4.c2; have h3 := grc r4.c3
  have i0 := grc r4.d0; have i1 := grc r4.d1; have i2 := grc r4.d2; have i3 := grc r4.d3
  clear ba bb bc bd r4
  refine wp_region_grown_tail 57 (by assumption) (by kernel_rfl) ?_
  simp only [List.take_succ_cons, List.take_zero, List.drop_succ_cons, List.drop_zero]
  repeat (quiet_step (first | (go_at_call 10; first | (with_reducible refine Calls.grown_of (L1.out _)) | (with_reducible refine Calls.grown_of (L2.out _)) | (with_reducible refine Calls.grown_of (L3.out _))) | (go_at_call 9; first | (with_reducible refine Calls.grown_of (C2.out _)) | (with_reducible refine Calls.grown_of (C3.out _)))))
  refine wpQuiet_nil ?_
  intro _ hw'
  obtain ⟨⟨nq, osq⟩, hw''⟩ := hw'
  subst hw''
  clear p0 p1 p2 p3 q0 q1 q2 q3 x0 x1 x2 x3 y0 y1 y2 y3 e0 e1 e2 e3 f0 f1 f2 f3 h0 h1 h2 h3 i0 i1 i2 i3
  go_wp2_with fail
  refine (sort_nil _).mono ?_
  rintro q w5 ⟨rfl, r, _, _, _, g5⟩
  go_wp2
  go_ret
  exact ⟨rfl, (gw.trans ⟨_, _, rfl⟩).trans g5⟩

/-! ### THE ROW's STEP: WRITTEN OUT: LEAVE IT -/
set_option maxRecDepth 100000 in
theorem lifted (os : Os) (started : os.Started) (H : Type) (enc : TypeId × Value → H) :
    ReturnsInHanded {} Try.checked os 6 .any (Rows.rankKnownSpec.pre6 enc Try.prog Try.f6 Rows.rankKnownRow.domain false) (Rows.rankKnownSpec.post enc Try.prog Try.f6 false true false false) := by
  refine returnsInHanded_of_change (C := Try.checked) own started (by kernel_rfl) Try.func6
    (ChangeSpec.witness6 (enc := enc) (C := Try.checked) false ⟨#[], #[], []⟩ 8 (by kernel_rfl) (by kernel_rfl) (by kernel_rfl) (by kernel_rfl)) ?_
  intro W base args ds gs before hval0 hW hcnd _
  have hval : ∀ (j : Nat) t v, Try.f6.params[j]? = some t → args[j]? = some v → Value.okWide Try.prog W .any base t v := hval0
  have hW' := hW
  obtain ⟨p, q, hA0, hV, rfl, hfz, hnd⟩ := hW
  have hA : DataW.TrodAll enc Try.prog W 0 (fun _ => true) true Try.f6.params.toList args.toList ds p := hA0
  rw [Try.params6] at hA hval
  obtain ⟨rfl, rfl, rfl⟩ := trodAll_none hA
  obtain ⟨rfl, rfl⟩ := trodVars_none hV
  clear hA0 hval0
  simp only [List.append_nil] at hW'
  refine (walk  W).mono fun e W' ⟨he, hg⟩ => ?_
  subst he
  exact ⟨_, rfl, post_gr (pa := []) (pv := []) hW' (fun _ _ _ => (trodAll_cons_mk (shut_bool Try.underlying4 _) trodAll_mk0)) (fun sp _ => rfl) (fun _ _ => rfl) rfl
    hg (ok_one (by kernel_rfl) rfl (okWide_bool_mk Try.underlying4 _))⟩

theorem over : Rows.rankKnownRow.holds Try.pinned (OpenSpec.ofChange Rows.rankKnownSpec) :=
  OpenClaim.holds_of_wide 6 Try.f6 rfl rfl rfl rfl rfl rfl rfl ⟨rfl, rfl, rfl, rfl, rfl⟩ rfl rfl rfl rfl rfl (by kernel_rfl) Try.func6 (by kernel_rfl)
    (of_decide_eq_true (by kernel_rfl)) (by unfold Func.isWrapper; first | (rw [if_pos (by decide +kernel)]; kernel_rfl) | (rw [if_neg (by decide +kernel)]; exact ⟨rfl, rfl⟩))
    (fun os started H enc _ => lifted os started H enc)

/-- ████ THE STATEMENT ████ -/
theorem proved : Rows.RankKnownSaid :=
  over
#print axioms proved
end Go.Proofs.Ytpaiaoaffoeleaa.rankKnown
