/- PROVED: for any three pairs of numbers of 16 bits the law RatioOrder answers true: to add the same to both changes not which fraction is less; no condition. -/
import Derived.Test.YtkmapegglgcfnaaRows
import Derived.WalkKit
import Derived.ProofKit
import Derived.OpenShut
import Derived.ShutString
import Derived.Deep.DeepCutAuto
import Derived.Deep.RegionHeld3
import Derived.Test.YtkmapegglgcfnaaR11
import Derived.Test.YtkmapegglgcfnaaArr2
namespace Go.Proofs.Ytkmapegglgcfnaa.ratioOrder
open Go.ChangeShapes Go.WideShapes Go.ChangeAt Go.RowKit
open Go.ChangeMaps (open_string shut_string)
set_option linter.unusedVariables false

theorem cells53 : Try.prog.cellsOf 53 = 1 := by kernel_rfl
theorem cells54 : Try.prog.cellsOf 54 = 2 := by kernel_rfl
theorem own : ownKnob Try.prog.godebug = none := by kernel_rfl

/-! ### THE WALK -/
set_option maxRecDepth 100000 in
set_option maxHeartbeats 8000000 in
theorem walk (a0 : Int) (a1 : Int) (a2 : Int) (a3 : Int) (a4 : Int) (a5 : Int) (w0 : (Lit.int .i16 a0).wf = true) (w1 : (Lit.int .i16 a1).wf = true) (w2 : (Lit.int .i16 a2).wf = true) (w3 : (Lit.int .i16 a3).wf = true) (w4 : (Lit.int .i16 a4).wf = true) (w5 : (Lit.int .i16 a5).wf = true) (w : World) :
    Calls Try.prog 14 #[.agg #[.int .i16 a0, .int .i16 a1], .agg #[.int .i16 a2, .int .i16 a3], .agg #[.int .i16 a4, .int .i16 a5]] w fun e w' => e = .returned (.bool true) ∧ Grown w w' := by
  obtain ⟨h0, h1⟩ := bounds_i16 w0
  obtain ⟨h2, h3⟩ := bounds_i16 w1
  obtain ⟨h4, h5⟩ := bounds_i16 w2
  obtain ⟨h6, h7⟩ := bounds_i16 w3
  obtain ⟨h8, h9⟩ := bounds_i16 w4
  obtain ⟨h10, h11⟩ := bounds_i16 w5
  clear w0 w1 w2 w3 w4 w5
  by_cases d1 : a1 = 0
  · have td1 : (a1 == 0) = true := by simp [d1]
    clear d1
    go_enter Try.func14, Try.ntmps14
    go_wp2_with fail
    refine (awake2_true _).mono ?_
    rintro e w1 ⟨rfl, g1⟩
    have ca0 : w1.cell? ⟨w.heap.size, 0, none⟩ = some (.int .i16 a0) := gcell g1 (by simp [go_sem])
    have ca1 : w1.cell? ⟨w.heap.size, 1, none⟩ = some (.int .i16 a1) := gcell g1 (by simp [go_sem])
    have cb0 : w1.cell? ⟨w.heap.size + 1, 0, none⟩ = some (.int .i16 a2) := gcell g1 (by simp [go_sem])
    have cb1 : w1.cell? ⟨w.heap.size + 1, 1, none⟩ = some (.int .i16 a3) := gcell g1 (by simp [go_sem])
    have cc0 : w1.cell? ⟨w.heap.size + 1 + 1, 0, none⟩ = some (.int .i16 a4) := gcell g1 (by simp [go_sem])
    have cc1 : w1.cell? ⟨w.heap.size + 1 + 1, 1, none⟩ = some (.int .i16 a5) := gcell g1 (by simp [go_sem])
    have gw := grown_trans ((((Grown.refl w).alloc _ _).alloc _ _).alloc _ _) g1
    have zz : w.heap.size + 3 ≤ w1.heap.size := by have := g1.2.2; simp at this; omega
    have z_ca : w.heap.size < w1.heap.size := by omega
    have z_cb : w.heap.size + 1 < w1.heap.size := by omega
    have z_cc : w.heap.size + 1 + 1 < w1.heap.size := by omega
    clear g1 zz
    go_wp2
    go_ret
    exact ⟨rfl, gw⟩
  have td1 : (a1 == 0) = false := by simp [d1]
  by_cases d3 : a3 = 0
  · have td3 : (a3 == 0) = true := by simp [d3]
    clear d3
    go_enter Try.func14, Try.ntmps14
    go_wp2_with fail
    refine (awake2_true _).mono ?_
    rintro e w1 ⟨rfl, g1⟩
    have ca0 : w1.cell? ⟨w.heap.size, 0, none⟩ = some (.int .i16 a0) := gcell g1 (by simp [go_sem])
    have ca1 : w1.cell? ⟨w.heap.size, 1, none⟩ = some (.int .i16 a1) := gcell g1 (by simp [go_sem])
    have cb0 : w1.cell? ⟨w.heap.size + 1, 0, none⟩ = some (.int .i16 a2) := gcell g1 (by simp [go_sem])
    have cb1 : w1.cell? ⟨w.heap.size + 1, 1, none⟩ = some (.int .i16 a3) := gcell g1 (by simp [go_sem])
    have cc0 : w1.cell? ⟨w.heap.size + 1 + 1, 0, none⟩ = some (.int .i16 a4) := gcell g1 (by simp [go_sem])
    have cc1 : w1.cell? ⟨w.heap.size + 1 + 1, 1, none⟩ = some (.int .i16 a5) := gcell g1 (by simp [go_sem])
    have gw := grown_trans ((((Grown.refl w).alloc _ _).alloc _ _).alloc _ _) g1
    have zz : w.heap.size + 3 ≤ w1.heap.size := by have := g1.2.2; simp at this; omega
    have z_ca : w.heap.size < w1.heap.size := by omega
    have z_cb : w.heap.size + 1 < w1.heap.size := by omega
    have z_cc : w.heap.size + 1 + 1 < w1.heap.size := by omega
    clear g1 zz
    go_wp2
    go_ret
    exact ⟨rfl, gw⟩
  have td3 : (a3 == 0) = false := by simp [d3]
  by_cases d5 : a5 = 0
  · have td5 : (a5 == 0) = true := by simp [d5]
    clear d5
    go_enter Try.func14, Try.ntmps14
    go_wp2_with fail
    refine (awake2_true _).mono ?_
    rintro e w1 ⟨rfl, g1⟩
    have ca0 : w1.cell? ⟨w.heap.size, 0, none⟩ = some (.int .i16 a0) := gcell g1 (by simp [go_sem])
    have ca1 : w1.cell? ⟨w.heap.size, 1, none⟩ = some (.int .i16 a1) := gcell g1 (by simp [go_sem])
    have cb0 : w1.cell? ⟨w.heap.size + 1, 0, none⟩ = some (.int .i16 a2) := gcell g1 (by simp [go_sem])
    have cb1 : w1.cell? ⟨w.heap.size + 1, 1, none⟩ = some (.int .i16 a3) := gcell g1 (by simp [go_sem])
    have cc0 : w1.cell? ⟨w.heap.size + 1 + 1, 0, none⟩ = some (.int .i16 a4) := gcell g1 (by simp [go_sem])
    have cc1 : w1.cell? ⟨w.heap.size + 1 + 1, 1, none⟩ = some (.int .i16 a5) := gcell g1 (by simp [go_sem])
    have gw := grown_trans ((((Grown.refl w).alloc _ _).alloc _ _).alloc _ _) g1
    have zz : w.heap.size + 3 ≤ w1.heap.size := by have := g1.2.2; simp at this; omega
    have z_ca : w.heap.size < w1.heap.size := by omega
    have z_cb : w.heap.size + 1 < w1.heap.size := by omega
    have z_cc : w.heap.size + 1 + 1 < w1.heap.size := by omega
    clear g1 zz
    go_wp2
    go_ret
    exact ⟨rfl, gw⟩
  have td5 : (a5 == 0) = false := by simp [d5]
  obtain ⟨x, hx⟩ : ∃ x, Rat.divInt a0 a1 = x := ⟨_, rfl⟩
  obtain ⟨y, hy⟩ : ∃ x, Rat.divInt a2 a3 = x := ⟨_, rfl⟩
  obtain ⟨z, hz⟩ : ∃ x, Rat.divInt a4 a5 = x := ⟨_, rfl⟩
  have bx : BQ x 32768 32768 := by rw [← hx]; exact BQ.of d1 (by omega) (by omega)
  have by' : BQ y 32768 32768 := by rw [← hy]; exact BQ.of d3 (by omega) (by omega)
  have bz : BQ z 32768 32768 := by rw [← hz]; exact BQ.of d5 (by omega) (by omega)
  obtain ⟨u, hu⟩ : ∃ u, x + z = u := ⟨_, rfl⟩
  obtain ⟨v, hv⟩ : ∃ u, y + z = u := ⟨_, rfl⟩
  have fu : FitQ u := by have := bx.add bz; rw [hu] at this; exact this.fit (by omega) (by omega)
  have fv : FitQ v := by have := by'.add bz; rw [hv] at this; exact this.fit (by omega) (by omega)
  have fx : FitQ x := bx.fit (by omega) (by omega)
  have fy : FitQ y := by'.fit (by omega) (by omega)
  have fz : FitQ z := bz.fit (by omega) (by omega)
  obtain ⟨c, hc⟩ : ∃ c, cmpQ x y = c := ⟨_, rfl⟩
  have hc' : cmpQ u v = c := by rw [← hc, ← hu, ← hv]; exact cmpQ_same Rat.add_lt_add_right Rat.add_lt_add_right
  obtain ⟨d, hd⟩ : ∃ c, cmpQ u x = c := ⟨_, rfl⟩
  have hd' : cmpQ z 0 = d := by rw [← hd, ← hu]; exact (cmpQ_add x z).symm
  have Q := Lib.hid (And.intro hx (And.intro hy (And.intro hz (And.intro hu (And.intro hv (And.intro hc (And.intro hc' (And.intro hd hd'))))))))
  have D := Lib.hid (And.intro d1 (And.intro d3 d5))
  clear hx hy hz hu hv hc hc' hd hd' bx by' bz d1 d3 d5
  go_enter Try.func14, Try.ntmps14
  go_wp2_with fail
  refine (awake2_true _).mono ?_
  rintro e w1 ⟨rfl, g1⟩
  have ca0 : w1.cell? ⟨w.heap.size, 0, none⟩ = some (.int .i16 a0) := gcell g1 (by simp [go_sem])
  have ca1 : w1.cell? ⟨w.heap.size, 1, none⟩ = some (.int .i16 a1) := gcell g1 (by simp [go_sem])
  have cb0 : w1.cell? ⟨w.heap.size + 1, 0, none⟩ = some (.int .i16 a2) := gcell g1 (by simp [go_sem])
  have cb1 : w1.cell? ⟨w.heap.size + 1, 1, none⟩ = some (.int .i16 a3) := gcell g1 (by simp [go_sem])
  have cc0 : w1.cell? ⟨w.heap.size + 1 + 1, 0, none⟩ = some (.int .i16 a4) := gcell g1 (by simp [go_sem])
  have cc1 : w1.cell? ⟨w.heap.size + 1 + 1, 1, none⟩ = some (.int .i16 a5) := gcell g1 (by simp [go_sem])
  have gw := grown_trans ((((Grown.refl w).alloc _ _).alloc _ _).alloc _ _) g1
  have zz : w.heap.size + 3 ≤ w1.heap.size := by have := g1.2.2; simp at this; omega
  have z_ca : w.heap.size < w1.heap.size := by omega
  have z_cb : w.heap.size + 1 < w1.heap.size := by omega
  have z_cc : w.heap.size + 1 + 1 < w1.heap.size := by omega
  clear g1 zz
  go_wp2_with fail
  refine (of_named a0 a1 x _ (by omega) (by omega) (by omega) (by omega) D.out.1 Q.out.1 fx).mono ?_
  rintro e w2 ⟨rfl, g2⟩
  replace ca0 := gcell g2 (ca0)
  replace ca1 := gcell g2 (ca1)
  replace cb0 := gcell g2 (cb0)
  replace cb1 := gcell g2 (cb1)
  replace cc0 := gcell g2 (cc0)
  replace cc1 := gcell g2 (cc1)
  have zz := g2.2.2
  replace z_ca : w.heap.size < w2.heap.size := by omega
  replace z_cb : w.heap.size + 1 < w2.heap.size := by omega
  replace z_cc : w.heap.size + 1 + 1 < w2.heap.size := by omega
  replace gw := grown_trans gw g2
  clear g2 zz
  go_wp2_with fail
  refine (of_named a2 a3 y _ (by omega) (by omega) (by omega) (by omega) D.out.2.1 Q.out.2.1 fy).mono ?_
  rintro e w3 ⟨rfl, g3⟩
  replace ca0 := gcell g3 (cell_old ca0 _ _)
  replace ca1 := gcell g3 (cell_old ca1 _ _)
  replace cb0 := gcell g3 (cell_old cb0 _ _)
  replace cb1 := gcell g3 (cell_old cb1 _ _)
  replace cc0 := gcell g3 (cell_old cc0 _ _)
  replace cc1 := gcell g3 (cell_old cc1 _ _)
  have zz := ge_alloc g3
  replace z_ca : w.heap.size < w3.heap.size := by omega
  replace z_cb : w.heap.size + 1 < w3.heap.size := by omega
  replace z_cc : w.heap.size + 1 + 1 < w3.heap.size := by omega
  have cx0 : w3.cell? ⟨w2.heap.size, 0, none⟩ = some (.int .i64 x.num) := gcell g3 (by simp [go_sem])
  have cx1 : w3.cell? ⟨w2.heap.size, 1, none⟩ = some (.int .i64 (x.den : Int)) := gcell g3 (by simp [go_sem])
  have z_cx : w2.heap.size < w3.heap.size := by omega
  replace gw := grown_trans (gw.alloc _ _) g3
  clear g3 zz
  go_wp2_with fail
  refine (of_named a4 a5 z _ (by omega) (by omega) (by omega) (by omega) D.out.2.2 Q.out.2.2.1 fz).mono ?_
  rintro e w4 ⟨rfl, g4⟩
  replace ca0 := gcell g4 (cell_old ca0 _ _)
  replace ca1 := gcell g4 (cell_old ca1 _ _)
  replace cb0 := gcell g4 (cell_old cb0 _ _)
  replace cb1 := gcell g4 (cell_old cb1 _ _)
  replace cc0 := gcell g4 (cell_old cc0 _ _)
  replace cc1 := gcell g4 (cell_old cc1 _ _)
  replace cx0 := gcell g4 (cell_old cx0 _ _)
  replace cx1 := gcell g4 (cell_old cx1 _ _)
  have zz := ge_alloc g4
  replace z_ca : w.heap.size < w4.heap.size := by omega
  replace z_cb : w.heap.size + 1 < w4.heap.size := by omega
  replace z_cc : w.heap.size + 1 + 1 < w4.heap.size := by omega
  replace z_cx : w2.heap.size < w4.heap.size := by omega
  have cy0 : w4.cell? ⟨w3.heap.size, 0, none⟩ = some (.int .i64 y.num) := gcell g4 (by simp [go_sem])
  have cy1 : w4.cell? ⟨w3.heap.size, 1, none⟩ = some (.int .i64 (y.den : Int)) := gcell g4 (by simp [go_sem])
  have z_cy : w3.heap.size < w4.heap.size := by omega
  replace gw := grown_trans (gw.alloc _ _) g4
  clear g4 zz
  go_wp2_with fail
  refine (add_named x z u _ fx fz Q.out.2.2.2.1 fu).mono ?_
  rintro e w5 ⟨rfl, g5⟩
  replace ca0 := gcell g5 (cell_old ca0 _ _)
  replace ca1 := gcell g5 (cell_old ca1 _ _)
  replace cb0 := gcell g5 (cell_old cb0 _ _)
  replace cb1 := gcell g5 (cell_old cb1 _ _)
  replace cc0 := gcell g5 (cell_old cc0 _ _)
  replace cc1 := gcell g5 (cell_old cc1 _ _)
  replace cx0 := gcell g5 (cell_old cx0 _ _)
  replace cx1 := gcell g5 (cell_old cx1 _ _)
  replace cy0 := gcell g5 (cell_old cy0 _ _)
  replace cy1 := gcell g5 (cell_old cy1 _ _)
  have zz := ge_alloc g5
  replace z_ca : w.heap.size < w5.heap.size := by omega
  replace z_cb : w.heap.size + 1 < w5.heap.size := by omega
  replace z_cc : w.heap.size + 1 + 1 < w5.heap.size := by omega
  replace z_cx : w2.heap.size < w5.heap.size := by omega
  replace z_cy : w3.heap.size < w5.heap.size := by omega
  have cz0 : w5.cell? ⟨w4.heap.size, 0, none⟩ = some (.int .i64 z.num) := gcell g5 (by simp [go_sem])
  have cz1 : w5.cell? ⟨w4.heap.size, 1, none⟩ = some (.int .i64 (z.den : Int)) := gcell g5 (by simp [go_sem])
  have z_cz : w4.heap.size < w5.heap.size := by omega
  replace gw := grown_trans (gw.alloc _ _) g5
  clear g5 zz
  clear ca0 ca1
  clear cb0 cb1
  clear cc0 cc1
  go_wp2_with fail
  refine (add_named y z v _ fy fz Q.out.2.2.2.2.1 fv).mono ?_
  rintro e w6 ⟨rfl, g6⟩
  replace cx0 := gcell g6 (cell_old cx0 _ _)
  replace cx1 := gcell g6 (cell_old cx1 _ _)
  replace cy0 := gcell g6 (cell_old cy0 _ _)
  replace cy1 := gcell g6 (cell_old cy1 _ _)
  replace cz0 := gcell g6 (cell_old cz0 _ _)
  replace cz1 := gcell g6 (cell_old cz1 _ _)
  have zz := ge_alloc g6
  replace z_ca : w.heap.size < w6.heap.size := by omega
  replace z_cb : w.heap.size + 1 < w6.heap.size := by omega
  replace z_cc : w.heap.size + 1 + 1 < w6.heap.size := by omega
  replace z_cx : w2.heap.size < w6.heap.size := by omega
  replace z_cy : w3.heap.size < w6.heap.size := by omega
  replace z_cz : w4.heap.size < w6.heap.size := by omega
  have cu0 : w6.cell? ⟨w5.heap.size, 0, none⟩ = some (.int .i64 u.num) := gcell g6 (by simp [go_sem])
  have cu1 : w6.cell? ⟨w5.heap.size, 1, none⟩ = some (.int .i64 (u.den : Int)) := gcell g6 (by simp [go_sem])
  have z_cu : w5.heap.size < w6.heap.size := by omega
  replace gw := grown_trans (gw.alloc _ _) g6
  clear g6 zz
  go_upto_region 11 with fail
  replace cx0 := cell_old (cell_old cx0 #[.int .i64 v.num, .int .i64 (v.den : Int)] 37) #[.int .i64 0, .int .i64 1] 37
  replace cx1 := cell_old (cell_old cx1 #[.int .i64 v.num, .int .i64 (v.den : Int)] 37) #[.int .i64 0, .int .i64 1] 37
  replace cy0 := cell_old (cell_old cy0 #[.int .i64 v.num, .int .i64 (v.den : Int)] 37) #[.int .i64 0, .int .i64 1] 37
  replace cy1 := cell_old (cell_old cy1 #[.int .i64 v.num, .int .i64 (v.den : Int)] 37) #[.int .i64 0, .int .i64 1] 37
  replace cz0 := cell_old (cell_old cz0 #[.int .i64 v.num, .int .i64 (v.den : Int)] 37) #[.int .i64 0, .int .i64 1] 37
  replace cz1 := cell_old (cell_old cz1 #[.int .i64 v.num, .int .i64 (v.den : Int)] 37) #[.int .i64 0, .int .i64 1] 37
  replace cu0 := cell_old (cell_old cu0 #[.int .i64 v.num, .int .i64 (v.den : Int)] 37) #[.int .i64 0, .int .i64 1] 37
  replace cu1 := cell_old (cell_old cu1 #[.int .i64 v.num, .int .i64 (v.den : Int)] 37) #[.int .i64 0, .int .i64 1] 37
  have cv0 : ((w6.alloc (.cells #[.int .i64 v.num, .int .i64 (v.den : Int)] 37)).alloc (.cells #[.int .i64 0, .int .i64 1] 37)).cell? ⟨w6.heap.size, 0, none⟩ = some (.int .i64 v.num) := by simp [go_sem]
  have cv1 : ((w6.alloc (.cells #[.int .i64 v.num, .int .i64 (v.den : Int)] 37)).alloc (.cells #[.int .i64 0, .int .i64 1] 37)).cell? ⟨w6.heap.size, 1, none⟩ = some (.int .i64 (v.den : Int)) := by simp [go_sem]
  have cn0 : ((w6.alloc (.cells #[.int .i64 v.num, .int .i64 (v.den : Int)] 37)).alloc (.cells #[.int .i64 0, .int .i64 1] 37)).cell? ⟨w6.heap.size + 1, 0, none⟩ = some (.int .i64 0) := by simp [go_sem]
  have cn1 : ((w6.alloc (.cells #[.int .i64 v.num, .int .i64 (v.den : Int)] 37)).alloc (.cells #[.int .i64 0, .int .i64 1] 37)).cell? ⟨w6.heap.size + 1, 1, none⟩ = some (.int .i64 1) := by simp [go_sem]
  replace gw := (gw.alloc #[.int .i64 v.num, .int .i64 (v.den : Int)] 37).alloc #[.int .i64 0, .int .i64 1] 37
  generalize ((w6.alloc (.cells #[.int .i64 v.num, .int .i64 (v.den : Int)] 37)).alloc (.cells #[.int .i64 0, .int .i64 1] 37)) = W at *
  have e1 := Q.out.2.2.2.2.2.1
  have e2 := Q.out.2.2.2.2.2.2.1
  have e3 := Q.out.2.2.2.2.2.2.2.1
  have e4 := Q.out.2.2.2.2.2.2.2.2
  go_region_held3 (fun w' => w'.cell? ⟨w2.heap.size, 0, none⟩ = some (.int .i64 x.num) ∧ w'.cell? ⟨w2.heap.size, 1, none⟩ = some (.int .i64 (x.den : Int)) ∧ w'.cell? ⟨w3.heap.size, 0, none⟩ = some (.int .i64 y.num) ∧ w'.cell? ⟨w3.heap.size, 1, none⟩ = some (.int .i64 (y.den : Int)) ∧ w'.cell? ⟨w4.heap.size, 0, none⟩ = some (.int .i64 z.num) ∧ w'.cell? ⟨w4.heap.size, 1, none⟩ = some (.int .i64 (z.den : Int)) ∧ w'.cell? ⟨w5.heap.size, 0, none⟩ = some (.int .i64 u.num) ∧ w'.cell? ⟨w5.heap.size, 1, none⟩ = some (.int .i64 (u.den : Int)) ∧ w'.cell? ⟨w6.heap.size, 0, none⟩ = some (.int .i64 v.num) ∧ w'.cell? ⟨w6.heap.size, 1, none⟩ = some (.int .i64 (v.den : Int)) ∧ w'.cell? ⟨w6.heap.size + 1, 0, none⟩ = some (.int .i64 0) ∧ w'.cell? ⟨w6.heap.size + 1, 1, none⟩ = some (.int .i64 1))
    (refine ⟨?_, ?_, ?_, ?_, ?_, ?_, ?_, ?_, ?_, ?_, ?_, ?_⟩ <;> (repeat (first | assumption | refine cell_drew ?_ | refine cell_drewN ?_ _)))
    (first
      | (go_at_call 38; ((with_reducible refine (cmp_rat _ _ _ (by assumption) (by assumption)).mono ?_); rintro e wa ⟨rfl, ga⟩; replace cx0 := gcell ga cx0; replace cx1 := gcell ga cx1; replace cy0 := gcell ga cy0; replace cy1 := gcell ga cy1; replace cz0 := gcell ga cz0; replace cz1 := gcell ga cz1; replace cu0 := gcell ga cu0; replace cu1 := gcell ga cu1; replace cv0 := gcell ga cv0; replace cv1 := gcell ga cv1; replace cn0 := gcell ga cn0; replace cn1 := gcell ga cn1; replace gw := grown_trans gw ga; clear ga))
      | (go_at_call 38; ((with_reducible refine (cmp_zero _ _ (by assumption)).mono ?_); rintro e wb ⟨rfl, gb⟩; replace cx0 := gcell gb cx0; replace cx1 := gcell gb cx1; replace cy0 := gcell gb cy0; replace cy1 := gcell gb cy1; replace cz0 := gcell gb cz0; replace cz1 := gcell gb cz1; replace cu0 := gcell gb cu0; replace cu1 := gcell gb cu1; replace cv0 := gcell gb cv0; replace cv1 := gcell gb cv1; replace cn0 := gcell gb cn0; replace cn1 := gcell gb cn1; replace gw := grown_trans gw gb; clear gb)))
  clear e1 e2 e3 e4
  go_wp2
  go_ret
  exact ⟨rfl, gw⟩

/-! ### THE ROW's STEP -/
set_option maxRecDepth 100000 in
theorem lifted (os : Os) (started : os.Started) (H : Type) (enc : TypeId × Value → H) :
    ReturnsInHanded {} Try.checked os 14 .any (Rows.ratioOrderSpec.pre6 enc Try.prog Try.f14 Rows.ratioOrderRow.domain false) (Rows.ratioOrderSpec.post enc Try.prog Try.f14 false true false false) := by
  refine returnsInHanded_of_change (C := Try.checked) own started (by kernel_rfl) Try.func14
    (ChangeSpec.witness6 (enc := enc) (C := Try.checked) false ⟨#[], #[.agg #[.int .i16 0, .int .i16 0], .agg #[.int .i16 0, .int .i16 0], .agg #[.int .i16 0, .int .i16 0]], []⟩ 8 (by kernel_rfl) (by kernel_rfl) (by kernel_rfl) (by kernel_rfl)) ?_
  intro W base args ds gs before hval0 hW hcnd _
  have hval : ∀ (j : Nat) t v, Try.f14.params[j]? = some t → args[j]? = some v → Value.okWide Try.prog W .any base t v := hval0
  have hW' := hW
  obtain ⟨p, q, hA0, hV, rfl, hfz, hnd⟩ := hW
  have hA : DataW.TrodAll enc Try.prog W 0 (fun _ => true) true Try.f14.params.toList args.toList ds p := hA0
  rw [Try.params14] at hA hval
  obtain ⟨v0, vs0, d0, ds0, p0, q0, hargs, rfl, rfl, h0, r0⟩ := trodAll_cons hA
  obtain ⟨v1, vs1, d1, ds1, p1, q1, rfl, rfl, rfl, h1, r1⟩ := trodAll_cons r0
  obtain ⟨v2, vs2, d2, ds2, p2, q2, rfl, rfl, rfl, h2, r2⟩ := trodAll_cons r1
  obtain ⟨rfl, rfl, rfl⟩ := trodAll_nil r2
  obtain rfl : args = #[v0, v1, v2] := by cases args; simp_all
  obtain ⟨rfl, rfl⟩ := trodVars_none hV
  obtain ⟨a0, a1, rfl, rfl, rfl, w0, w1⟩ := open_two Try.underlying54 Try.underlying53 cells54 cells53 (hval 0 54 v0 rfl rfl) h0
  obtain ⟨a2, a3, rfl, rfl, rfl, w2, w3⟩ := open_two Try.underlying54 Try.underlying53 cells54 cells53 (hval 1 54 v1 rfl rfl) h1
  obtain ⟨a4, a5, rfl, rfl, rfl, w4, w5⟩ := open_two Try.underlying54 Try.underlying53 cells54 cells53 (hval 2 54 v2 rfl rfl) h2
  clear hA0 hval0
  simp only [List.append_nil] at hW'
  refine (walk a0 a1 a2 a3 a4 a5 w0 w1 w2 w3 w4 w5 W).mono fun e W' ⟨he, hg⟩ => ?_
  subst he
  exact ⟨_, rfl, post_of_same (pa := []) (pv := []) hW' (fun _ _ _ => (trodAll_cons_mk (shut_bool Try.underlying4 _) trodAll_mk0)) (fun sp _ => (trodAll_cons_mk (shut_two Try.underlying54 Try.underlying53 cells54 cells53 w0 w1) (trodAll_cons_mk (shut_two Try.underlying54 Try.underlying53 cells54 cells53 w2 w3) (trodAll_cons_mk (shut_two Try.underlying54 Try.underlying53 cells54 cells53 w4 w5) trodAll_mk0)))) (fun _ _ => rfl) rfl
    (hg.frame _) hg.2.1 (ok_one (by kernel_rfl) rfl (okWide_bool_mk Try.underlying4 _))⟩

theorem over : Rows.ratioOrderRow.holds Try.pinned (OpenSpec.ofChange Rows.ratioOrderSpec) :=
  OpenClaim.holds_of_wide 14 Try.f14 rfl rfl rfl rfl rfl rfl rfl ⟨rfl, rfl, rfl, rfl, rfl⟩ rfl rfl rfl rfl rfl (by kernel_rfl) Try.func14 (by kernel_rfl)
    (of_decide_eq_true (by kernel_rfl)) (by unfold Func.isWrapper; first | (rw [if_pos (by decide +kernel)]; kernel_rfl) | (rw [if_neg (by decide +kernel)]; exact ⟨rfl, rfl⟩))
    (fun os started H enc _ => lifted os started H enc)

/-- THE STATEMENT -/
theorem proved : Rows.RatioOrderSaid :=
  over
#print axioms proved
end Go.Proofs.Ytkmapegglgcfnaa.ratioOrder
