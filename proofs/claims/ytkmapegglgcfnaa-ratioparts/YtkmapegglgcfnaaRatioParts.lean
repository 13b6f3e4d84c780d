/- PROVED: for any three numbers (of 32, 32 and 16 bits) the law RatioParts answers true: whole parts of a fraction, rounded down and up; no condition. -/
import Derived.Test.YtkmapegglgcfnaaRows
import Derived.WalkKit
import Derived.ProofKit
import Derived.OpenShut
import Derived.ShutString
import Derived.Deep.DeepCutAuto
import Derived.Deep.RegionHeld3
import Derived.Test.YtkmapegglgcfnaaR11
namespace Go.Proofs.Ytkmapegglgcfnaa.ratioParts
open Go.ChangeShapes Go.WideShapes Go.ChangeAt Go.RowKit
open Go.ChangeMaps (open_string shut_string)
set_option linter.unusedVariables false      -- a walk need not use every 'w<i>' (that an integer argument fits its kind)

theorem own : ownKnob Try.prog.godebug = none := by kernel_rfl

/-! ### STEP 1: THE WALK: the Go text returns true. 'Grown w w'': the world has at most new blocks (Derived/RowKit3.lean). Part the cases AHEAD of 'go_enter' where a test parts the walk; take each callee by a contract of your own. -/
set_option maxRecDepth 100000 in
set_option maxHeartbeats 8000000 in
theorem walk (a0 : Int) (a1 : Int) (a2 : Int) (w0 : (Lit.int .i32 a0).wf = true) (w1 : (Lit.int .i32 a1).wf = true) (w2 : (Lit.int .i16 a2).wf = true) (w : World) :
    Calls Try.prog 15 #[.int .i32 a0, .int .i32 a1, .int .i16 a2] w fun e w' => e = .returned (.bool true) ∧ Grown w w' := by
  obtain ⟨h0, h1⟩ := bounds_i32 w0
  obtain ⟨h2, h3⟩ := bounds_i32 w1
  obtain ⟨h4, h5⟩ := bounds_i16 w2
  clear w0 w1 w2
  by_cases hd : a1 = 0
  · have d0 : (a1 == 0) = true := by simp [hd]
    clear hd
    go_enter Try.func15, Try.ntmps15
    go_wp2_with fail
    refine (awake2_true _).mono ?_
    rintro e w1 ⟨rfl, g1⟩
    go_wp2
    go_ret
    exact ⟨rfl, g1⟩
  have d0 : (a1 == 0) = false := by simp [hd]
  obtain ⟨x, hx⟩ : ∃ x, Rat.divInt a0 a1 = x := ⟨_, rfl⟩
  have bx : BQ x 2147483648 2147483648 := by rw [← hx]; exact BQ.of hd (by omega) (by omega)
  obtain ⟨y, hy⟩ : ∃ y, x + (a2 : Rat) = y := ⟨_, rfl⟩
  have by' : BQ y 72057594037927936 2147483648 := by
    have := bx.add (bq_int (k := a2) (A := 32768) (by omega))
    rw [hy] at this
    exact ⟨Nat.le_trans this.nu (by omega), this.de⟩
  have fx := bx.fit (by omega) (by omega)
  have fy := by'.fit (by omega) (by omega)
  obtain ⟨f, hf⟩ : ∃ f, x.floor = f := ⟨_, rfl⟩
  obtain ⟨c, hc⟩ : ∃ c, x.ceil = c := ⟨_, rfl⟩
  have bf := bx.floor
  have bc := bx.ceil
  rw [hf] at bf
  rw [hc] at bc
  have f0 : -2147483648 ≤ f := by omega
  have f1 : f ≤ 2147483648 := by omega
  have c0 : -2147483648 ≤ c := by omega
  have c1 : c ≤ 2147483648 := by omega
  clear bf bc
  have yf : y.floor = f + a2 := by rw [← hy, Rat.floor_add_intCast, hf]
  have yc : y.ceil = c + a2 := by rw [← hy, Rat.ceil_add_intCast, hc]
  have q1 : cmpQ (f : Rat) x ≤ 0 := cmpQ_le (by rw [← hf]; exact Rat.floor_le x)
  have q2 : 0 ≤ cmpQ (c : Rat) x := cmpQ_ge (by rw [← hc]; exact Rat.le_ceil)
  have q3 : cmpQ ((f + 1 : Int) : Rat) x = 1 := cmpQ_gt (by rw [← hf]; exact Rat.lt_floor_add_one x)
  have q4 : cmpQ ((c - 1 : Int) : Rat) x = -1 := cmpQ_lt (by
    have := Rat.lt_ceil_iff (x := x) (y := c - 1)
    exact this.1 (by omega))
  have t1 : decide (cmpQ (f : Rat) x ≤ 0) = true := by simp [q1]
  have t2 : decide (0 ≤ cmpQ (c : Rat) x) = true := by simp [q2]
  have QQ := Lib.hid (And.intro hx (And.intro hy (And.intro hf (And.intro hc (And.intro yf (And.intro yc (And.intro q3 (And.intro q4 (And.intro fx fy)))))))))
  clear bx by' hx hy hf hc yf yc q1 q2 q3 q4 fx fy
  go_enter Try.func15, Try.ntmps15
  go_wp2_with fail
  refine (awake2_true _).mono ?_
  rintro e w1 ⟨rfl, g1⟩
  go_wp2_with fail
  refine (of_named a0 a1 x _ (by omega) (by omega) (by omega) (by omega) hd QQ.out.1 QQ.out.2.2.2.2.2.2.2.2.1).mono ?_
  rintro e w2 ⟨rfl, g2⟩
  go_wp2_with fail
  refine ((add_int x a2 _ QQ.out.2.2.2.2.2.2.2.2.1 (by omega) (by omega) (by rw [QQ.out.2.1]; exact QQ.out.2.2.2.2.2.2.2.2.2)).mono ?_)
  rw [QQ.out.2.1]
  rintro e w3 ⟨rfl, g3⟩
  have z3 := ge_alloc g3
  have x0 : w3.cell? ⟨w2.heap.size, 0, none⟩ = some (.int .i64 x.num) := gcell g3 (by simp [go_sem])
  have x1 : w3.cell? ⟨w2.heap.size, 1, none⟩ = some (.int .i64 (x.den : Int)) := gcell g3 (by simp [go_sem])
  have gw := grown_trans (grown_trans g1 g2) (grown_trans ((Grown.refl _).alloc _ _) g3)
  clear g1 g2 g3
  go_upto_region 7 with fail
  replace x0 := cell_old x0 #[.int .i64 y.num, .int .i64 (y.den : Int)] 37
  replace x1 := cell_old x1 #[.int .i64 y.num, .int .i64 (y.den : Int)] 37
  have y0 : (w3.alloc (.cells #[.int .i64 y.num, .int .i64 (y.den : Int)] 37)).cell? ⟨w3.heap.size, 0, none⟩ = some (.int .i64 y.num) := by simp [go_sem]
  have y1 : (w3.alloc (.cells #[.int .i64 y.num, .int .i64 (y.den : Int)] 37)).cell? ⟨w3.heap.size, 1, none⟩ = some (.int .i64 (y.den : Int)) := by simp [go_sem]
  replace gw := gw.alloc #[.int .i64 y.num, .int .i64 (y.den : Int)] 37
  generalize w3.alloc (.cells #[.int .i64 y.num, .int .i64 (y.den : Int)] 37) = W at *
  go_region_held3 (fun w' => w'.cell? ⟨w2.heap.size, 0, none⟩ = some (.int .i64 x.num) ∧ w'.cell? ⟨w2.heap.size, 1, none⟩ = some (.int .i64 (x.den : Int)))
    (refine ⟨?_, ?_⟩ <;> (repeat (first | assumption | refine cell_drew ?_ | refine cell_drewN ?_ _)))
    (first
      | (go_at_call 39; refine (floor_at' x f _ QQ.out.2.2.2.2.2.2.2.2.1 QQ.out.2.2.1).mono ?_; rintro e w4 ⟨rfl, g4⟩; replace x0 := gcell g4 x0; replace x1 := gcell g4 x1; replace y0 := gcell g4 y0; replace y1 := gcell g4 y1; replace gw := grown_trans gw g4; clear g4)
      | (go_at_call 41; refine (ceil_at' x c _ QQ.out.2.2.2.2.2.2.2.2.1 QQ.out.2.2.2.1).mono ?_; rintro e w5 ⟨rfl, g5⟩; replace x0 := gcell g5 x0; replace x1 := gcell g5 x1; replace y0 := gcell g5 y0; replace y1 := gcell g5 y1; replace gw := grown_trans gw g5; clear g5))
  go_wp2_with fail
  refine (floor_at' y (f + a2) _ QQ.out.2.2.2.2.2.2.2.2.2 QQ.out.2.2.2.2.1).mono ?_
  rintro e w6 ⟨rfl, g6⟩
  replace x0 := gcell g6 x0
  replace x1 := gcell g6 x1
  replace y0 := gcell g6 y0
  replace y1 := gcell g6 y1
  replace gw := grown_trans gw g6
  clear g6
  go_wp2_with fail
  refine (ceil_at' y (c + a2) _ QQ.out.2.2.2.2.2.2.2.2.2 QQ.out.2.2.2.2.2.1).mono ?_
  rintro e w7 ⟨rfl, g7⟩
  replace x0 := gcell g7 x0
  replace x1 := gcell g7 x1
  replace y0 := gcell g7 y0
  replace y1 := gcell g7 y1
  replace gw := grown_trans gw g7
  clear g7
  go_wp2_with fail
  refine (cmp_int f x _ (by omega) (by omega) QQ.out.2.2.2.2.2.2.2.2.1).mono ?_
  rintro e w8 ⟨rfl, g8⟩
  replace x0 := gcell g8 x0
  replace x1 := gcell g8 x1
  replace y0 := gcell g8 y0
  replace y1 := gcell g8 y1
  replace gw := grown_trans gw g8
  clear g8
  go_wp2_with fail
  refine (cmp_int c x _ (by omega) (by omega) QQ.out.2.2.2.2.2.2.2.2.1).mono ?_
  rintro e w9 ⟨rfl, g9⟩
  replace x0 := gcell g9 x0
  replace x1 := gcell g9 x1
  replace y0 := gcell g9 y0
  replace y1 := gcell g9 y1
  replace gw := grown_trans gw g9
  clear g9
  go_wp2_with fail
  refine (cmp_int_at (f + 1) x 1 _ (by omega) (by omega) QQ.out.2.2.2.2.2.2.2.2.1 QQ.out.2.2.2.2.2.2.1).mono ?_
  rintro e w10 ⟨rfl, g10⟩
  replace x0 := gcell g10 x0
  replace x1 := gcell g10 x1
  replace y0 := gcell g10 y0
  replace y1 := gcell g10 y1
  replace gw := grown_trans gw g10
  clear g10
  go_wp2_with fail
  refine (cmp_int_at (c - 1) x (-1) _ (by omega) (by omega) QQ.out.2.2.2.2.2.2.2.2.1 QQ.out.2.2.2.2.2.2.2.1).mono ?_
  rintro e w11 ⟨rfl, g11⟩
  replace x0 := gcell g11 x0
  replace x1 := gcell g11 x1
  replace y0 := gcell g11 y0
  replace y1 := gcell g11 y1
  replace gw := grown_trans gw g11
  clear g11
  go_wp2
  go_ret
  exact ⟨rfl, gw⟩

/-! ### THE ROW's STEP: WRITTEN OUT: LEAVE IT -/
set_option maxRecDepth 100000 in
theorem lifted (os : Os) (started : os.Started) (H : Type) (enc : TypeId × Value → H) :
    ReturnsInHanded {} Try.checked os 15 .any (Rows.ratioPartsSpec.pre6 enc Try.prog Try.f15 Rows.ratioPartsRow.domain false) (Rows.ratioPartsSpec.post enc Try.prog Try.f15 false true false false) := by
  refine returnsInHanded_of_change (C := Try.checked) own started (by kernel_rfl) Try.func15
    (ChangeSpec.witness6 (enc := enc) (C := Try.checked) false ⟨#[], #[.int .i32 0, .int .i32 0, .int .i16 0], []⟩ 8 (by kernel_rfl) (by kernel_rfl) (by kernel_rfl) (by kernel_rfl)) ?_
  intro W base args ds gs before hval0 hW hcnd _
  have hval : ∀ (j : Nat) t v, Try.f15.params[j]? = some t → args[j]? = some v → Value.okWide Try.prog W .any base t v := hval0
  have hW' := hW
  obtain ⟨p, q, hA0, hV, rfl, hfz, hnd⟩ := hW
  have hA : DataW.TrodAll enc Try.prog W 0 (fun _ => true) true Try.f15.params.toList args.toList ds p := hA0
  rw [Try.params15] at hA hval
  obtain ⟨v0, vs0, d0, ds0, p0, q0, hargs, rfl, rfl, h0, r0⟩ := trodAll_cons hA
  obtain ⟨v1, vs1, d1, ds1, p1, q1, rfl, rfl, rfl, h1, r1⟩ := trodAll_cons r0
  obtain ⟨v2, vs2, d2, ds2, p2, q2, rfl, rfl, rfl, h2, r2⟩ := trodAll_cons r1
  obtain ⟨rfl, rfl, rfl⟩ := trodAll_nil r2
  obtain rfl : args = #[v0, v1, v2] := by cases args; simp_all
  obtain ⟨rfl, rfl⟩ := trodVars_none hV
  obtain ⟨a0, rfl, rfl, rfl, w0⟩ := open_int Try.underlying21 (hval 0 21 v0 rfl rfl) h0
  obtain ⟨a1, rfl, rfl, rfl, w1⟩ := open_int Try.underlying21 (hval 1 21 v1 rfl rfl) h1
  obtain ⟨a2, rfl, rfl, rfl, w2⟩ := open_int Try.underlying53 (hval 2 53 v2 rfl rfl) h2
  clear hA0 hval0
  simp only [List.append_nil] at hW'
  refine (walk a0 a1 a2 w0 w1 w2 W).mono fun e W' ⟨he, hg⟩ => ?_
  subst he
  exact ⟨_, rfl, post_of_same (pa := []) (pv := []) hW' (fun _ _ _ => (trodAll_cons_mk (shut_bool Try.underlying4 _) trodAll_mk0)) (fun sp _ => (trodAll_cons_mk (shut_int Try.underlying21 w0) (trodAll_cons_mk (shut_int Try.underlying21 w1) (trodAll_cons_mk (shut_int Try.underlying53 w2) trodAll_mk0)))) (fun _ _ => rfl) rfl
    (hg.frame _) hg.2.1 (ok_one (by kernel_rfl) rfl (okWide_bool_mk Try.underlying4 _))⟩

theorem over : Rows.ratioPartsRow.holds Try.pinned (OpenSpec.ofChange Rows.ratioPartsSpec) :=
  OpenClaim.holds_of_wide 15 Try.f15 rfl rfl rfl rfl rfl rfl rfl ⟨rfl, rfl, rfl, rfl, rfl⟩ rfl rfl rfl rfl rfl (by kernel_rfl) Try.func15 (by kernel_rfl)
    (of_decide_eq_true (by kernel_rfl)) (by unfold Func.isWrapper; first | (rw [if_pos (by decide +kernel)]; kernel_rfl) | (rw [if_neg (by decide +kernel)]; exact ⟨rfl, rfl⟩))
    (fun os started H enc _ => lifted os started H enc)

/-- ████ THE STATEMENT ████ -/
theorem proved : Rows.RatioPartsSaid :=
  over
#print axioms proved
end Go.Proofs.Ytkmapegglgcfnaa.ratioParts
