/- PROVED: for any two pairs of numbers of 64 bits the law RatioMay answers true: whether they are fractions in lowest terms, what is not is refused, comparing is exact; no condition. -/
import Derived.Test.YtkmapegglgcfnaaRows
import Derived.WalkKit
import Derived.ProofKit
import Derived.OpenShut
import Derived.ShutString
import Derived.Deep.DeepCutAuto
import Derived.Deep.RegionHeld3
import Derived.Deep.RegionWith
import Derived.Test.YtkmapegglgcfnaaR12
import Derived.Test.YtkmapegglgcfnaaArr2
namespace Go.Proofs.Ytkmapegglgcfnaa.ratioMay
open Go.ChangeShapes Go.WideShapes Go.ChangeAt Go.RowKit
open Go.ChangeMaps (open_string shut_string)
set_option linter.unusedVariables false

theorem cells2 : Try.prog.cellsOf 2 = 1 := by kernel_rfl
theorem cells37 : Try.prog.cellsOf 37 = 2 := by kernel_rfl
theorem own : ownKnob Try.prog.godebug = none := by kernel_rfl

/-! ### THE WALK -/
set_option maxRecDepth 100000 in
set_option maxHeartbeats 8000000 in
theorem walk (a0 : Int) (a1 : Int) (a2 : Int) (a3 : Int) (w0 : (Lit.int .i64 a0).wf = true) (w1 : (Lit.int .i64 a1).wf = true) (w2 : (Lit.int .i64 a2).wf = true) (w3 : (Lit.int .i64 a3).wf = true) (w : World) :
    Calls Try.prog 11 #[.agg #[.int .i64 a0, .int .i64 a1], .agg #[.int .i64 a2, .int .i64 a3]] w fun e w' => e = .returned (.bool true) ∧ Grown w w' := by
  obtain ⟨h0, h1⟩ := bounds_i64 w0
  obtain ⟨h2, h3⟩ := bounds_i64 w1
  obtain ⟨h4, h5⟩ := bounds_i64 w2
  obtain ⟨h6, h7⟩ := bounds_i64 w3
  clear w0 w1 w2 w3
  by_cases ma : MayR a0 a1
  · by_cases mb : MayR a2 a3
    · have HB : Hid (MayR a0 a1 ∧ MayR a2 a3) := ⟨ma, mb⟩
      clear ma mb
      go_enter Try.func11, Try.ntmps11
      go_wp2_with fail
      refine (awake2_true _).mono ?_
      rintro e w1 ⟨rfl, g1⟩
      obtain ⟨ca0, ca1, cb0, cb1, gw⟩ := two_boxes _ _ _ _ _ _ g1
      have zz : w.heap.size + 2 ≤ w1.heap.size := by have := g1.2.2; simp at this; omega
      have z_ca : w.heap.size < w1.heap.size := by omega
      have z_cb : w.heap.size + 1 < w1.heap.size := by omega
      clear g1 zz
      have zs := Nat.le_refl w1.heap.size
      go_upto_region 3 with fail
      go_cut [5, 6] (fun s5 s6 wx => s5 = .bool true ∧ s6 = .bool true ∧ Keep4 w a0 a1 a2 a3 w1 wx)
      case first =>
        go_region_held3 (fun w' => w'.cell? ⟨w.heap.size, 0, none⟩ = some (.int .i64 a0) ∧ w'.cell? ⟨w.heap.size, 1, none⟩ = some (.int .i64 a1) ∧ w'.cell? ⟨w.heap.size + 1, 0, none⟩ = some (.int .i64 a2) ∧ w'.cell? ⟨w.heap.size + 1, 1, none⟩ = some (.int .i64 a3))
          (refine ⟨?_, ?_, ?_, ?_⟩ <;> (repeat (first | assumption | refine cell_drew ?_ | refine cell_drewN ?_ _)))
          (first
            | (go_at_call 43; ((with_reducible refine (ratmay_yes a0 a1 _ h0 h1 h2 h3 HB.out.1).mono ?_); rintro e wa ⟨rfl, ga⟩; replace ca0 := gcell ga ca0; replace ca1 := gcell ga ca1; replace cb0 := gcell ga cb0; replace cb1 := gcell ga cb1; replace gw := grown_trans gw ga; replace zs := Nat.le_trans zs ga.2.2; clear ga))
            | (go_at_call 43; ((with_reducible refine (ratmay_yes a2 a3 _ h4 h5 h6 h7 HB.out.2).mono ?_); rintro e wa ⟨rfl, ga⟩; replace ca0 := gcell ga ca0; replace ca1 := gcell ga ca1; replace cb0 := gcell ga cb0; replace cb1 := gcell ga cb1; replace gw := grown_trans gw ga; replace zs := Nat.le_trans zs ga.2.2; clear ga)))
        all_goals (go_wp2_with fail)
        all_goals go_meet
        all_goals exact ⟨rfl, rfl, ⟨ca0, ca1, cb0, cb1, gw, zs⟩⟩
      case rest =>
        clear ca0 ca1 cb0 cb1 gw zs
        obtain ⟨rfl, rfl, kp⟩ := hcut
        rename World => w2
        have ca0 := kp.a0
        have ca1 := kp.a1
        have cb0 := kp.b0
        have cb1 := kp.b1
        have gw := kp.gw
        have zs := kp.zs
        replace z_ca : w.heap.size < w2.heap.size := by omega
        replace z_cb : w.heap.size + 1 < w2.heap.size := by omega
        clear zs kp
        obtain ⟨x, ex0, ex1⟩ := rat_of a0 a1 HB.out.1.1 HB.out.1.2
        obtain ⟨y, ey0, ey1⟩ := rat_of a2 a3 HB.out.2.1 HB.out.2.2
        subst ex0 ex1 ey0 ey1
        have fx : FitQ x := ⟨h0, h1, h3⟩
        have fy : FitQ y := ⟨h4, h5, h7⟩
        go_wp2_with fail
        refine (add_rat x y _ fx fy).mono ?_
        rintro e w3 ⟨rfl, g3⟩
        replace ca0 := gcell g3 (ca0)
        replace ca1 := gcell g3 (ca1)
        replace cb0 := gcell g3 (cb0)
        replace cb1 := gcell g3 (cb1)
        have zz := g3.2.2
        replace z_ca : w.heap.size < w3.heap.size := by omega
        replace z_cb : w.heap.size + 1 < w3.heap.size := by omega
        replace gw := grown_trans gw g3
        clear g3 zz
        go_wp2_with fail
        refine (sub_rat x y _ fx fy).mono ?_
        rintro e w4 ⟨rfl, g4⟩
        replace ca0 := gcell g4 (cell_old ca0 _ _)
        replace ca1 := gcell g4 (cell_old ca1 _ _)
        replace cb0 := gcell g4 (cell_old cb0 _ _)
        replace cb1 := gcell g4 (cell_old cb1 _ _)
        have zz := ge_alloc g4
        replace z_ca : w.heap.size < w4.heap.size := by omega
        replace z_cb : w.heap.size + 1 < w4.heap.size := by omega
        have r10 : w4.cell? ⟨w3.heap.size, 0, none⟩ = some (.int .i64 (qN (x + y))) := gcell g4 (by simp [go_sem])
        have r11 : w4.cell? ⟨w3.heap.size, 1, none⟩ = some (.int .i64 (qD (x + y))) := gcell g4 (by simp [go_sem])
        have z_r1 : w3.heap.size < w4.heap.size := by omega
        replace gw := grown_trans (gw.alloc _ _) g4
        clear g4 zz
        clear r10 r11
        go_wp2_with fail
        refine (mul_rat x y _ fx fy).mono ?_
        rintro e w5 ⟨rfl, g5⟩
        replace ca0 := gcell g5 (cell_old ca0 _ _)
        replace ca1 := gcell g5 (cell_old ca1 _ _)
        replace cb0 := gcell g5 (cell_old cb0 _ _)
        replace cb1 := gcell g5 (cell_old cb1 _ _)
        have zz := ge_alloc g5
        replace z_ca : w.heap.size < w5.heap.size := by omega
        replace z_cb : w.heap.size + 1 < w5.heap.size := by omega
        replace z_r1 : w3.heap.size < w5.heap.size := by omega
        have r20 : w5.cell? ⟨w4.heap.size, 0, none⟩ = some (.int .i64 (qN (x - y))) := gcell g5 (by simp [go_sem])
        have r21 : w5.cell? ⟨w4.heap.size, 1, none⟩ = some (.int .i64 (qD (x - y))) := gcell g5 (by simp [go_sem])
        have z_r2 : w4.heap.size < w5.heap.size := by omega
        replace gw := grown_trans (gw.alloc _ _) g5
        clear g5 zz
        clear r20 r21
        go_upto_region 10 with fail
        replace ca0 := cell_old ca0 #[.int .i64 (qN (x * y)), .int .i64 (qD (x * y))] 37
        replace ca1 := cell_old ca1 #[.int .i64 (qN (x * y)), .int .i64 (qD (x * y))] 37
        replace cb0 := cell_old cb0 #[.int .i64 (qN (x * y)), .int .i64 (qD (x * y))] 37
        replace cb1 := cell_old cb1 #[.int .i64 (qN (x * y)), .int .i64 (qD (x * y))] 37
        replace gw := gw.alloc #[.int .i64 (qN (x * y)), .int .i64 (qD (x * y))] 37
        generalize (w5.alloc (.cells #[.int .i64 (qN (x * y)), .int .i64 (qD (x * y))] 37)) = W at *
        have e1 : cmpQ x y = cmpI (x.num * y.den) (y.num * x.den) := rfl
        generalize hc : cmpI (x.num * y.den) (y.num * x.den) = c at e1
        go_region_held3 (fun w' => w'.cell? ⟨w.heap.size, 0, none⟩ = some (.int .i64 x.num) ∧ w'.cell? ⟨w.heap.size, 1, none⟩ = some (.int .i64 (x.den : Int)) ∧ w'.cell? ⟨w.heap.size + 1, 0, none⟩ = some (.int .i64 y.num) ∧ w'.cell? ⟨w.heap.size + 1, 1, none⟩ = some (.int .i64 (y.den : Int)))
          (refine ⟨?_, ?_, ?_, ?_⟩ <;> (repeat (first | assumption | refine cell_drew ?_ | refine cell_drewN ?_ _)))
          (first
            | (go_at_call 44; ((with_reducible refine (may_yes _ _ _ h0 h1 h2 h3 (mayR x)).mono ?_); rintro e wb ⟨rfl, gb⟩; replace ca0 := gcell gb ca0; replace ca1 := gcell gb ca1; replace cb0 := gcell gb cb0; replace cb1 := gcell gb cb1; replace gw := grown_trans gw gb; clear gb))
            | (go_at_call 45; ((with_reducible refine (over_any _ _).mono ?_); rintro e wb ⟨rfl, rfl⟩))
            | (go_at_call 38; ((with_reducible refine (cmp_rat _ _ _ fx fy).mono ?_); rintro e wc ⟨rfl, gc⟩; replace ca0 := gcell gc ca0; replace ca1 := gcell gc ca1; replace cb0 := gcell gc cb0; replace cb1 := gcell gc cb1; replace gw := grown_trans gw gc; clear gc))
            | (go_at_call 22; ((with_reducible refine (rcross_any _ _ _ _ _ h0 h1 h6 h7 h4 h5 h2 h3).mono ?_); rintro e wd ⟨rfl, gd⟩; replace ca0 := gcell gd ca0; replace ca1 := gcell gd ca1; replace cb0 := gcell gd cb0; replace cb1 := gcell gd cb1; replace gw := grown_trans gw gd; clear gd)))
        clear e1 hc
        go_wp2
        go_ret
        exact ⟨rfl, gw⟩
    · have MA := Lib.hid ma
      have MB := Lib.hid mb
      have HM : Hid (¬ (MayR a0 a1 ∧ MayR a2 a3)) := fun h => mb h.2
      clear ma mb
      go_enter Try.func11, Try.ntmps11
      go_wp2_with fail
      refine (awake2_true _).mono ?_
      rintro e w1 ⟨rfl, g1⟩
      obtain ⟨ca0, ca1, cb0, cb1, gw⟩ := two_boxes _ _ _ _ _ _ g1
      have zz : w.heap.size + 2 ≤ w1.heap.size := by have := g1.2.2; simp at this; omega
      have z_ca : w.heap.size < w1.heap.size := by omega
      have z_cb : w.heap.size + 1 < w1.heap.size := by omega
      clear g1 zz
      have zs := Nat.le_refl w1.heap.size
      go_upto_region 3 with fail
      go_cut [5, 6] (fun s5 s6 wx => s5 = .bool true ∧ s6 = .bool false ∧ Keep4 w a0 a1 a2 a3 w1 wx)
      case first =>
        go_region_held3 (fun w' => w'.cell? ⟨w.heap.size, 0, none⟩ = some (.int .i64 a0) ∧ w'.cell? ⟨w.heap.size, 1, none⟩ = some (.int .i64 a1) ∧ w'.cell? ⟨w.heap.size + 1, 0, none⟩ = some (.int .i64 a2) ∧ w'.cell? ⟨w.heap.size + 1, 1, none⟩ = some (.int .i64 a3))
          (refine ⟨?_, ?_, ?_, ?_⟩ <;> (repeat (first | assumption | refine cell_drew ?_ | refine cell_drewN ?_ _)))
          (first
            | (go_at_call 43; ((with_reducible refine (ratmay_yes a0 a1 _ h0 h1 h2 h3 MA.out).mono ?_); rintro e wa ⟨rfl, ga⟩; replace ca0 := gcell ga ca0; replace ca1 := gcell ga ca1; replace cb0 := gcell ga cb0; replace cb1 := gcell ga cb1; replace gw := grown_trans gw ga; replace zs := Nat.le_trans zs ga.2.2; clear ga))
            | (go_at_call 43; ((with_reducible refine (ratmay_no a2 a3 _ h4 h5 h6 h7 MB.out).mono ?_); rintro e wa ⟨rfl, ga⟩; replace ca0 := gcell ga ca0; replace ca1 := gcell ga ca1; replace cb0 := gcell ga cb0; replace cb1 := gcell ga cb1; replace gw := grown_trans gw ga; replace zs := Nat.le_trans zs ga.2.2; clear ga)))
        all_goals (go_wp2_with fail)
        all_goals go_meet
        all_goals exact ⟨rfl, rfl, ⟨ca0, ca1, cb0, cb1, gw, zs⟩⟩
      case rest =>
        clear ca0 ca1 cb0 cb1 gw zs
        obtain ⟨rfl, rfl, kp⟩ := hcut
        rename World => w2
        have ca0 := kp.a0
        have ca1 := kp.a1
        have cb0 := kp.b0
        have cb1 := kp.b1
        have gw := kp.gw
        have zs := kp.zs
        replace z_ca : w.heap.size < w2.heap.size := by omega
        replace z_cb : w.heap.size + 1 < w2.heap.size := by omega
        clear zs kp
        go_wp2_with fail
        refine (add_refused a0 a1 a2 a3 _ h0 h1 h2 h3 h4 h5 h6 h7 HM.out).mono ?_
        rintro e w3 ⟨rfl, g3⟩
        replace ca0 := gcell g3 (ca0)
        replace ca1 := gcell g3 (ca1)
        replace cb0 := gcell g3 (cb0)
        replace cb1 := gcell g3 (cb1)
        have zz := g3.2.2
        replace z_ca : w.heap.size < w3.heap.size := by omega
        replace z_cb : w.heap.size + 1 < w3.heap.size := by omega
        replace gw := grown_trans gw g3
        clear g3 zz
        go_wp2_with fail
        refine (sub_refused a0 a1 a2 a3 _ h0 h1 h2 h3 h4 h5 h6 h7 HM.out).mono ?_
        rintro e w4 ⟨rfl, g4⟩
        replace ca0 := gcell g4 (cell_old ca0 _ _)
        replace ca1 := gcell g4 (cell_old ca1 _ _)
        replace cb0 := gcell g4 (cell_old cb0 _ _)
        replace cb1 := gcell g4 (cell_old cb1 _ _)
        have zz := ge_alloc g4
        replace z_ca : w.heap.size < w4.heap.size := by omega
        replace z_cb : w.heap.size + 1 < w4.heap.size := by omega
        have r10 : w4.cell? ⟨w3.heap.size, 0, none⟩ = some (.int .i64 0) := gcell g4 (by simp [go_sem])
        have r11 : w4.cell? ⟨w3.heap.size, 1, none⟩ = some (.int .i64 0) := gcell g4 (by simp [go_sem])
        have z_r1 : w3.heap.size < w4.heap.size := by omega
        replace gw := grown_trans (gw.alloc _ _) g4
        clear g4 zz
        clear r10 r11
        go_wp2_with fail
        refine (mul_refused a0 a1 a2 a3 _ h0 h1 h2 h3 h4 h5 h6 h7 HM.out).mono ?_
        rintro e w5 ⟨rfl, g5⟩
        replace ca0 := gcell g5 (cell_old ca0 _ _)
        replace ca1 := gcell g5 (cell_old ca1 _ _)
        replace cb0 := gcell g5 (cell_old cb0 _ _)
        replace cb1 := gcell g5 (cell_old cb1 _ _)
        have zz := ge_alloc g5
        replace z_ca : w.heap.size < w5.heap.size := by omega
        replace z_cb : w.heap.size + 1 < w5.heap.size := by omega
        replace z_r1 : w3.heap.size < w5.heap.size := by omega
        have r20 : w5.cell? ⟨w4.heap.size, 0, none⟩ = some (.int .i64 0) := gcell g5 (by simp [go_sem])
        have r21 : w5.cell? ⟨w4.heap.size, 1, none⟩ = some (.int .i64 0) := gcell g5 (by simp [go_sem])
        have z_r2 : w4.heap.size < w5.heap.size := by omega
        replace gw := grown_trans (gw.alloc _ _) g5
        clear g5 zz
        clear r20 r21
        go_wp2_with fail
        refine (may_yes a0 a1 _ h0 h1 h2 h3 MA.out).mono ?_
        rintro e w6 ⟨rfl, g6⟩
        replace ca0 := gcell g6 (cell_old ca0 _ _)
        replace ca1 := gcell g6 (cell_old ca1 _ _)
        replace cb0 := gcell g6 (cell_old cb0 _ _)
        replace cb1 := gcell g6 (cell_old cb1 _ _)
        have zz := ge_alloc g6
        replace z_ca : w.heap.size < w6.heap.size := by omega
        replace z_cb : w.heap.size + 1 < w6.heap.size := by omega
        replace z_r1 : w3.heap.size < w6.heap.size := by omega
        replace z_r2 : w4.heap.size < w6.heap.size := by omega
        have r30 : w6.cell? ⟨w5.heap.size, 0, none⟩ = some (.int .i64 0) := gcell g6 (by simp [go_sem])
        have r31 : w6.cell? ⟨w5.heap.size, 1, none⟩ = some (.int .i64 0) := gcell g6 (by simp [go_sem])
        have z_r3 : w5.heap.size < w6.heap.size := by omega
        replace gw := grown_trans (gw.alloc _ _) g6
        clear g6 zz
        clear r30 r31
        go_wp2_with fail
        refine (cmp_no a0 a1 a2 a3 _ h0 h1 h2 h3 h4 h5 h6 h7 HM.out).mono ?_
        rintro e w7 ⟨rfl, g7⟩
        replace ca0 := gcell g7 (ca0)
        replace ca1 := gcell g7 (ca1)
        replace cb0 := gcell g7 (cb0)
        replace cb1 := gcell g7 (cb1)
        have zz := g7.2.2
        replace z_ca : w.heap.size < w7.heap.size := by omega
        replace z_cb : w.heap.size + 1 < w7.heap.size := by omega
        replace z_r1 : w3.heap.size < w7.heap.size := by omega
        replace z_r2 : w4.heap.size < w7.heap.size := by omega
        replace z_r3 : w5.heap.size < w7.heap.size := by omega
        replace gw := grown_trans gw g7
        clear g7 zz
        go_wp2
        go_ret
        exact ⟨rfl, gw⟩
  have MA := Lib.hid ma
  have HM : Hid (¬ (MayR a0 a1 ∧ MayR a2 a3)) := fun h => ma h.1
  clear ma
  go_enter Try.func11, Try.ntmps11
  go_wp2_with fail
  refine (awake2_true _).mono ?_
  rintro e w1 ⟨rfl, g1⟩
  obtain ⟨ca0, ca1, cb0, cb1, gw⟩ := two_boxes _ _ _ _ _ _ g1
  have zz : w.heap.size + 2 ≤ w1.heap.size := by have := g1.2.2; simp at this; omega
  have z_ca : w.heap.size < w1.heap.size := by omega
  have z_cb : w.heap.size + 1 < w1.heap.size := by omega
  clear g1 zz
  have zs := Nat.le_refl w1.heap.size
  go_upto_region 3 with fail
  go_cut [5, 6] (fun s5 s6 wx => s5 = .bool false ∧ s6 = .bool false ∧ Keep4 w a0 a1 a2 a3 w1 wx)
  case first =>
    go_region_with (first
      | (go_at_call 43; ((with_reducible refine (ratmay_no a0 a1 _ h0 h1 h2 h3 MA.out).mono ?_); rintro e wa ⟨rfl, ga⟩; replace ca0 := gcell ga ca0; replace ca1 := gcell ga ca1; replace cb0 := gcell ga cb0; replace cb1 := gcell ga cb1; replace gw := grown_trans gw ga; replace zs := Nat.le_trans zs ga.2.2; clear ga)))
    all_goals (go_wp2_with fail)
    all_goals go_meet
    all_goals exact ⟨rfl, rfl, ⟨ca0, ca1, cb0, cb1, gw, zs⟩⟩
  case rest =>
    clear ca0 ca1 cb0 cb1 gw zs
    obtain ⟨rfl, rfl, kp⟩ := hcut
    rename World => w2
    have ca0 := kp.a0
    have ca1 := kp.a1
    have cb0 := kp.b0
    have cb1 := kp.b1
    have gw := kp.gw
    have zs := kp.zs
    replace z_ca : w.heap.size < w2.heap.size := by omega
    replace z_cb : w.heap.size + 1 < w2.heap.size := by omega
    clear zs kp
    go_wp2_with fail
    refine (add_refused a0 a1 a2 a3 _ h0 h1 h2 h3 h4 h5 h6 h7 HM.out).mono ?_
    rintro e w3 ⟨rfl, g3⟩
    replace ca0 := gcell g3 (ca0)
    replace ca1 := gcell g3 (ca1)
    replace cb0 := gcell g3 (cb0)
    replace cb1 := gcell g3 (cb1)
    have zz := g3.2.2
    replace z_ca : w.heap.size < w3.heap.size := by omega
    replace z_cb : w.heap.size + 1 < w3.heap.size := by omega
    replace gw := grown_trans gw g3
    clear g3 zz
    go_wp2_with fail
    refine (sub_refused a0 a1 a2 a3 _ h0 h1 h2 h3 h4 h5 h6 h7 HM.out).mono ?_
    rintro e w4 ⟨rfl, g4⟩
    replace ca0 := gcell g4 (cell_old ca0 _ _)
    replace ca1 := gcell g4 (cell_old ca1 _ _)
    replace cb0 := gcell g4 (cell_old cb0 _ _)
    replace cb1 := gcell g4 (cell_old cb1 _ _)
    have zz := ge_alloc g4
    replace z_ca : w.heap.size < w4.heap.size := by omega
    replace z_cb : w.heap.size + 1 < w4.heap.size := by omega
    have r10 : w4.cell? ⟨w3.heap.size, 0, none⟩ = some (.int .i64 0) := gcell g4 (by simp [go_sem])
    have r11 : w4.cell? ⟨w3.heap.size, 1, none⟩ = some (.int .i64 0) := gcell g4 (by simp [go_sem])
    have z_r1 : w3.heap.size < w4.heap.size := by omega
    replace gw := grown_trans (gw.alloc _ _) g4
    clear g4 zz
    clear r10 r11
    go_wp2_with fail
    refine (mul_refused a0 a1 a2 a3 _ h0 h1 h2 h3 h4 h5 h6 h7 HM.out).mono ?_
    rintro e w5 ⟨rfl, g5⟩
    replace ca0 := gcell g5 (cell_old ca0 _ _)
    replace ca1 := gcell g5 (cell_old ca1 _ _)
    replace cb0 := gcell g5 (cell_old cb0 _ _)
    replace cb1 := gcell g5 (cell_old cb1 _ _)
    have zz := ge_alloc g5
    replace z_ca : w.heap.size < w5.heap.size := by omega
    replace z_cb : w.heap.size + 1 < w5.heap.size := by omega
    replace z_r1 : w3.heap.size < w5.heap.size := by omega
    have r20 : w5.cell? ⟨w4.heap.size, 0, none⟩ = some (.int .i64 0) := gcell g5 (by simp [go_sem])
    have r21 : w5.cell? ⟨w4.heap.size, 1, none⟩ = some (.int .i64 0) := gcell g5 (by simp [go_sem])
    have z_r2 : w4.heap.size < w5.heap.size := by omega
    replace gw := grown_trans (gw.alloc _ _) g5
    clear g5 zz
    clear r20 r21
    go_wp2_with fail
    refine (may_no a0 a1 _ h0 h1 h2 h3 MA.out).mono ?_
    rintro e w6 ⟨rfl, g6⟩
    replace ca0 := gcell g6 (cell_old ca0 _ _)
    replace ca1 := gcell g6 (cell_old ca1 _ _)
    replace cb0 := gcell g6 (cell_old cb0 _ _)
    replace cb1 := gcell g6 (cell_old cb1 _ _)
    have zz := ge_alloc g6
    replace z_ca : w.heap.size < w6.heap.size := by omega
    replace z_cb : w.heap.size + 1 < w6.heap.size := by omega
    replace z_r1 : w3.heap.size < w6.heap.size := by omega
    replace z_r2 : w4.heap.size < w6.heap.size := by omega
    have r30 : w6.cell? ⟨w5.heap.size, 0, none⟩ = some (.int .i64 0) := gcell g6 (by simp [go_sem])
    have r31 : w6.cell? ⟨w5.heap.size, 1, none⟩ = some (.int .i64 0) := gcell g6 (by simp [go_sem])
    have z_r3 : w5.heap.size < w6.heap.size := by omega
    replace gw := grown_trans (gw.alloc _ _) g6
    clear g6 zz
    clear r30 r31
    go_wp2_with fail
    refine (cmp_no a0 a1 a2 a3 _ h0 h1 h2 h3 h4 h5 h6 h7 HM.out).mono ?_
    rintro e w7 ⟨rfl, g7⟩
    replace ca0 := gcell g7 (ca0)
    replace ca1 := gcell g7 (ca1)
    replace cb0 := gcell g7 (cb0)
    replace cb1 := gcell g7 (cb1)
    have zz := g7.2.2
    replace z_ca : w.heap.size < w7.heap.size := by omega
    replace z_cb : w.heap.size + 1 < w7.heap.size := by omega
    replace z_r1 : w3.heap.size < w7.heap.size := by omega
    replace z_r2 : w4.heap.size < w7.heap.size := by omega
    replace z_r3 : w5.heap.size < w7.heap.size := by omega
    replace gw := grown_trans gw g7
    clear g7 zz
    go_wp2_with fail
    refine (floor_no a0 a1 _ h0 h1 h2 h3 MA.out).mono ?_
    rintro e w8 ⟨rfl, g8⟩
    replace ca0 := gcell g8 (ca0)
    replace ca1 := gcell g8 (ca1)
    replace cb0 := gcell g8 (cb0)
    replace cb1 := gcell g8 (cb1)
    have zz := g8.2.2
    replace z_ca : w.heap.size < w8.heap.size := by omega
    replace z_cb : w.heap.size + 1 < w8.heap.size := by omega
    replace z_r1 : w3.heap.size < w8.heap.size := by omega
    replace z_r2 : w4.heap.size < w8.heap.size := by omega
    replace z_r3 : w5.heap.size < w8.heap.size := by omega
    replace gw := grown_trans gw g8
    clear g8 zz
    go_wp2_with fail
    refine (ceil_no a0 a1 _ h0 h1 h2 h3 MA.out).mono ?_
    rintro e w9 ⟨rfl, g9⟩
    replace ca0 := gcell g9 (ca0)
    replace ca1 := gcell g9 (ca1)
    replace cb0 := gcell g9 (cb0)
    replace cb1 := gcell g9 (cb1)
    have zz := g9.2.2
    replace z_ca : w.heap.size < w9.heap.size := by omega
    replace z_cb : w.heap.size + 1 < w9.heap.size := by omega
    replace z_r1 : w3.heap.size < w9.heap.size := by omega
    replace z_r2 : w4.heap.size < w9.heap.size := by omega
    replace z_r3 : w5.heap.size < w9.heap.size := by omega
    replace gw := grown_trans gw g9
    clear g9 zz
    go_wp2
    go_ret
    exact ⟨rfl, gw⟩

/-! ### THE ROW's STEP -/
set_option maxRecDepth 100000 in
theorem lifted (os : Os) (started : os.Started) (H : Type) (enc : TypeId × Value → H) :
    ReturnsInHanded {} Try.checked os 11 .any (Rows.ratioMaySpec.pre6 enc Try.prog Try.f11 Rows.ratioMayRow.domain false) (Rows.ratioMaySpec.post enc Try.prog Try.f11 false true false false) := by
  refine returnsInHanded_of_change (C := Try.checked) own started (by kernel_rfl) Try.func11
    (ChangeSpec.witness6 (enc := enc) (C := Try.checked) false ⟨#[], #[.agg #[.int .i64 0, .int .i64 0], .agg #[.int .i64 0, .int .i64 0]], []⟩ 8 (by kernel_rfl) (by kernel_rfl) (by kernel_rfl) (by kernel_rfl)) ?_
  intro W base args ds gs before hval0 hW hcnd _
  have hval : ∀ (j : Nat) t v, Try.f11.params[j]? = some t → args[j]? = some v → Value.okWide Try.prog W .any base t v := hval0
  have hW' := hW
  obtain ⟨p, q, hA0, hV, rfl, hfz, hnd⟩ := hW
  have hA : DataW.TrodAll enc Try.prog W 0 (fun _ => true) true Try.f11.params.toList args.toList ds p := hA0
  rw [Try.params11] at hA hval
  obtain ⟨v0, vs0, d0, ds0, p0, q0, hargs, rfl, rfl, h0, r0⟩ := trodAll_cons hA
  obtain ⟨v1, vs1, d1, ds1, p1, q1, rfl, rfl, rfl, h1, r1⟩ := trodAll_cons r0
  obtain ⟨rfl, rfl, rfl⟩ := trodAll_nil r1
  obtain rfl : args = #[v0, v1] := by cases args; simp_all
  obtain ⟨rfl, rfl⟩ := trodVars_none hV
  obtain ⟨a0, a1, rfl, rfl, rfl, w0, w1⟩ := open_pair Try.underlying37 (by kernel_rfl) cells37 Try.underlying2 Try.underlying2 (hval 0 37 v0 rfl rfl) h0
  obtain ⟨a2, a3, rfl, rfl, rfl, w2, w3⟩ := open_pair Try.underlying37 (by kernel_rfl) cells37 Try.underlying2 Try.underlying2 (hval 1 37 v1 rfl rfl) h1
  clear hA0 hval0
  simp only [List.append_nil] at hW'
  refine (walk a0 a1 a2 a3 w0 w1 w2 w3 W).mono fun e W' ⟨he, hg⟩ => ?_
  subst he
  exact ⟨_, rfl, post_of_same (pa := []) (pv := []) hW' (fun _ _ _ => (trodAll_cons_mk (shut_bool Try.underlying4 _) trodAll_mk0)) (fun sp _ => (trodAll_cons_mk (shut_pair Try.underlying37 (by kernel_rfl) cells37 Try.underlying2 Try.underlying2 w0 w1) (trodAll_cons_mk (shut_pair Try.underlying37 (by kernel_rfl) cells37 Try.underlying2 Try.underlying2 w2 w3) trodAll_mk0))) (fun _ _ => rfl) rfl
    (hg.frame _) hg.2.1 (ok_one (by kernel_rfl) rfl (okWide_bool_mk Try.underlying4 _))⟩

theorem over : Rows.ratioMayRow.holds Try.pinned (OpenSpec.ofChange Rows.ratioMaySpec) :=
  OpenClaim.holds_of_wide 11 Try.f11 rfl rfl rfl rfl rfl rfl rfl ⟨rfl, rfl, rfl, rfl, rfl⟩ rfl rfl rfl rfl rfl (by kernel_rfl) Try.func11 (by kernel_rfl)
    (of_decide_eq_true (by kernel_rfl)) (by unfold Func.isWrapper; first | (rw [if_pos (by decide +kernel)]; kernel_rfl) | (rw [if_neg (by decide +kernel)]; exact ⟨rfl, rfl⟩))
    (fun os started H enc _ => lifted os started H enc)

/-- THE STATEMENT -/
theorem proved : Rows.RatioMaySaid :=
  over
#print axioms proved
end Go.Proofs.Ytkmapegglgcfnaa.ratioMay
