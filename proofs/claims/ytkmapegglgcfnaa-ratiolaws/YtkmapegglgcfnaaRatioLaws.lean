/- PROVED: for any three pairs of numbers of 8 bits the law RatioLaws answers true: sums do not hang on the order, what is added and taken away is as it was, products are dealt out over sums; no condition. -/
import Derived.Test.YtkmapegglgcfnaaRows
import Derived.WalkKit
import Derived.ProofKit
import Derived.OpenShut
import Derived.ShutString
import Derived.Deep.DeepCutAuto
import Derived.Deep.RegionHeld3
import Derived.Test.YtkmapegglgcfnaaR12
import Derived.Test.YtkmapegglgcfnaaArr2
namespace Go.Proofs.Ytkmapegglgcfnaa.ratioLaws
open Go.ChangeShapes Go.WideShapes Go.ChangeAt Go.RowKit
open Go.ChangeMaps (open_string shut_string)
set_option linter.unusedVariables false

theorem cells50 : Try.prog.cellsOf 50 = 1 := by kernel_rfl
theorem cells51 : Try.prog.cellsOf 51 = 2 := by kernel_rfl
theorem own : ownKnob Try.prog.godebug = none := by kernel_rfl

/-! ### THE WALK -/
set_option maxRecDepth 100000 in
set_option maxHeartbeats 8000000 in
theorem walk (a0 : Int) (a1 : Int) (a2 : Int) (a3 : Int) (a4 : Int) (a5 : Int) (w0 : (Lit.int .i8 a0).wf = true) (w1 : (Lit.int .i8 a1).wf = true) (w2 : (Lit.int .i8 a2).wf = true) (w3 : (Lit.int .i8 a3).wf = true) (w4 : (Lit.int .i8 a4).wf = true) (w5 : (Lit.int .i8 a5).wf = true) (w : World) :
    Calls Try.prog 13 #[.agg #[.int .i8 a0, .int .i8 a1], .agg #[.int .i8 a2, .int .i8 a3], .agg #[.int .i8 a4, .int .i8 a5]] w fun e w' => e = .returned (.bool true) ∧ Grown w w' := by
  obtain ⟨h0, h1⟩ := bounds_i8 w0
  obtain ⟨h2, h3⟩ := bounds_i8 w1
  obtain ⟨h4, h5⟩ := bounds_i8 w2
  obtain ⟨h6, h7⟩ := bounds_i8 w3
  obtain ⟨h8, h9⟩ := bounds_i8 w4
  obtain ⟨h10, h11⟩ := bounds_i8 w5
  clear w0 w1 w2 w3 w4 w5
  by_cases d1 : a1 = 0
  · have td1 : (a1 == 0) = true := by simp [d1]
    clear d1
    go_enter Try.func13, Try.ntmps13
    go_wp2_with fail
    refine (awake2_true _).mono ?_
    rintro e w1 ⟨rfl, g1⟩
    have ca0 : w1.cell? ⟨w.heap.size, 0, none⟩ = some (.int .i8 a0) := gcell g1 (by simp [go_sem])
    have ca1 : w1.cell? ⟨w.heap.size, 1, none⟩ = some (.int .i8 a1) := gcell g1 (by simp [go_sem])
    have cb0 : w1.cell? ⟨w.heap.size + 1, 0, none⟩ = some (.int .i8 a2) := gcell g1 (by simp [go_sem])
    have cb1 : w1.cell? ⟨w.heap.size + 1, 1, none⟩ = some (.int .i8 a3) := gcell g1 (by simp [go_sem])
    have cc0 : w1.cell? ⟨w.heap.size + 1 + 1, 0, none⟩ = some (.int .i8 a4) := gcell g1 (by simp [go_sem])
    have cc1 : w1.cell? ⟨w.heap.size + 1 + 1, 1, none⟩ = some (.int .i8 a5) := gcell g1 (by simp [go_sem])
    have gw := grown_trans ((((Grown.refl w).alloc _ _).alloc _ _).alloc _ _) g1
    have zz : w.heap.size + 3 ≤ w1.heap.size := by have := g1.2.2; simp at this; omega
    have z_ca : w.heap.size < w1.heap.size := by omega
    have z_cb : w.heap.size + 1 < w1.heap.size := by omega
    have z_cc : w.heap.size + 1 + 1 < w1.heap.size := by omega
    clear g1 zz
    go_wp2
    go_ret
    exact ⟨rfl, gw⟩
  have td1 : (a1 == 0) = false := by simp [d1]
  by_cases d3 : a3 = 0
  · have td3 : (a3 == 0) = true := by simp [d3]
    clear d3
    go_enter Try.func13, Try.ntmps13
    go_wp2_with fail
    refine (awake2_true _).mono ?_
    rintro e w1 ⟨rfl, g1⟩
    have ca0 : w1.cell? ⟨w.heap.size, 0, none⟩ = some (.int .i8 a0) := gcell g1 (by simp [go_sem])
    have ca1 : w1.cell? ⟨w.heap.size, 1, none⟩ = some (.int .i8 a1) := gcell g1 (by simp [go_sem])
    have cb0 : w1.cell? ⟨w.heap.size + 1, 0, none⟩ = some (.int .i8 a2) := gcell g1 (by simp [go_sem])
    have cb1 : w1.cell? ⟨w.heap.size + 1, 1, none⟩ = some (.int .i8 a3) := gcell g1 (by simp [go_sem])
    have cc0 : w1.cell? ⟨w.heap.size + 1 + 1, 0, none⟩ = some (.int .i8 a4) := gcell g1 (by simp [go_sem])
    have cc1 : w1.cell? ⟨w.heap.size + 1 + 1, 1, none⟩ = some (.int .i8 a5) := gcell g1 (by simp [go_sem])
    have gw := grown_trans ((((Grown.refl w).alloc _ _).alloc _ _).alloc _ _) g1
    have zz : w.heap.size + 3 ≤ w1.heap.size := by have := g1.2.2; simp at this; omega
    have z_ca : w.heap.size < w1.heap.size := by omega
    have z_cb : w.heap.size + 1 < w1.heap.size := by omega
    have z_cc : w.heap.size + 1 + 1 < w1.heap.size := by omega
    clear g1 zz
    go_wp2
    go_ret
    exact ⟨rfl, gw⟩
  have td3 : (a3 == 0) = false := by simp [d3]
  by_cases d5 : a5 = 0
  · have td5 : (a5 == 0) = true := by simp [d5]
    clear d5
    go_enter Try.func13, Try.ntmps13
    go_wp2_with fail
    refine (awake2_true _).mono ?_
    rintro e w1 ⟨rfl, g1⟩
    have ca0 : w1.cell? ⟨w.heap.size, 0, none⟩ = some (.int .i8 a0) := gcell g1 (by simp [go_sem])
    have ca1 : w1.cell? ⟨w.heap.size, 1, none⟩ = some (.int .i8 a1) := gcell g1 (by simp [go_sem])
    have cb0 : w1.cell? ⟨w.heap.size + 1, 0, none⟩ = some (.int .i8 a2) := gcell g1 (by simp [go_sem])
    have cb1 : w1.cell? ⟨w.heap.size + 1, 1, none⟩ = some (.int .i8 a3) := gcell g1 (by simp [go_sem])
    have cc0 : w1.cell? ⟨w.heap.size + 1 + 1, 0, none⟩ = some (.int .i8 a4) := gcell g1 (by simp [go_sem])
    have cc1 : w1.cell? ⟨w.heap.size + 1 + 1, 1, none⟩ = some (.int .i8 a5) := gcell g1 (by simp [go_sem])
    have gw := grown_trans ((((Grown.refl w).alloc _ _).alloc _ _).alloc _ _) g1
    have zz : w.heap.size + 3 ≤ w1.heap.size := by have := g1.2.2; simp at this; omega
    have z_ca : w.heap.size < w1.heap.size := by omega
    have z_cb : w.heap.size + 1 < w1.heap.size := by omega
    have z_cc : w.heap.size + 1 + 1 < w1.heap.size := by omega
    clear g1 zz
    go_wp2
    go_ret
    exact ⟨rfl, gw⟩
  have td5 : (a5 == 0) = false := by simp [d5]
  obtain ⟨x, hx⟩ : ∃ x, Rat.divInt a0 a1 = x := ⟨_, rfl⟩
  obtain ⟨y, hy⟩ : ∃ x, Rat.divInt a2 a3 = x := ⟨_, rfl⟩
  obtain ⟨z, hz⟩ : ∃ x, Rat.divInt a4 a5 = x := ⟨_, rfl⟩
  have bx : BQ x 128 128 := by rw [← hx]; exact BQ.of d1 (by omega) (by omega)
  have by' : BQ y 128 128 := by rw [← hy]; exact BQ.of d3 (by omega) (by omega)
  have bz : BQ z 128 128 := by rw [← hz]; exact BQ.of d5 (by omega) (by omega)
  obtain ⟨p, hp⟩ : ∃ u, x + y = u := ⟨_, rfl⟩
  have hp' : y + x = p := by rw [← hp, Rat.add_comm]
  obtain ⟨q, hq⟩ : ∃ u, y + z = u := ⟨_, rfl⟩
  obtain ⟨s, hs⟩ : ∃ u, p + z = u := ⟨_, rfl⟩
  have hs' : x + q = s := by rw [← hs, ← hp, ← hq, Rat.add_assoc]
  have hb : p - y = x := by rw [← hp, Rat.add_sub_cancel]
  obtain ⟨m, hm⟩ : ∃ u, x * q = u := ⟨_, rfl⟩
  obtain ⟨k, hk⟩ : ∃ u, x * y = u := ⟨_, rfl⟩
  obtain ⟨r, hr⟩ : ∃ u, x * z = u := ⟨_, rfl⟩
  have hm' : k + r = m := by rw [← hk, ← hr, ← hm, ← hq, Rat.mul_add]
  have bp : BQ p 32768 16384 := by have := bx.add by'; rw [hp] at this; exact this
  have bq : BQ q 32768 16384 := by have := by'.add bz; rw [hq] at this; exact this
  have bs : BQ s 6291456 2097152 := by have := bp.add bz; rw [hs] at this; exact this
  have bm : BQ m 4194304 2097152 := by have := bx.mul bq; rw [hm] at this; exact this
  have bk : BQ k 16384 16384 := by have := bx.mul by'; rw [hk] at this; exact this
  have br : BQ r 16384 16384 := by have := bx.mul bz; rw [hr] at this; exact this
  have fx : FitQ x := bx.fit (by omega) (by omega)
  have fy : FitQ y := by'.fit (by omega) (by omega)
  have fz : FitQ z := bz.fit (by omega) (by omega)
  have fp : FitQ p := bp.fit (by omega) (by omega)
  have fq : FitQ q := bq.fit (by omega) (by omega)
  have fs : FitQ s := bs.fit (by omega) (by omega)
  have fm : FitQ m := bm.fit (by omega) (by omega)
  have fk : FitQ k := bk.fit (by omega) (by omega)
  have fr : FitQ r := br.fit (by omega) (by omega)
  obtain ⟨c, hc⟩ : ∃ c, cmpQ y x = c := ⟨_, rfl⟩
  have hc' : cmpQ x y = -c := by rw [← hc, cmpQ_swap]
  have cb := cmpQ_bd y x
  rw [hc] at cb
  obtain ⟨cb0, cb1⟩ := cb
  obtain ⟨f, hf⟩ : ∃ f, x.floor = f := ⟨_, rfl⟩
  obtain ⟨g, hg⟩ : ∃ f, x.ceil = f := ⟨_, rfl⟩
  have f0 := bx.floor
  have f1 := bx.ceil
  rw [hf] at f0
  rw [hg] at f1
  have f2 : -128 ≤ f := by omega
  have f3 : f ≤ 128 := by omega
  have f4 : -128 ≤ g := by omega
  have f5 : g ≤ 128 := by omega
  have pd := den_pos' x
  have pe : (x.den : Int) ≤ 128 := by have := bx.de; omega
  have eq := ceil_floor x
  rw [hf, hg] at eq
  clear f0 f1
  have Q := Lib.hid (And.intro hx (And.intro hy (And.intro hz (And.intro hp (And.intro hp' (And.intro hq (And.intro hs (And.intro hs' (And.intro hb (And.intro hm (And.intro hk (And.intro hr (And.intro hm' (And.intro hc (And.intro hc' (And.intro hf (And.intro hg eq)))))))))))))))))
  have D := Lib.hid (And.intro d1 (And.intro d3 d5))
  clear hx hy hz hp hp' hq hs hs' hb hm hk hr hm' hc hc' hf hg eq bx by' bz bp bq bs bm bk br d1 d3 d5
  go_enter Try.func13, Try.ntmps13
  go_wp2_with fail
  refine (awake2_true _).mono ?_
  rintro e w1 ⟨rfl, g1⟩
  have ca0 : w1.cell? ⟨w.heap.size, 0, none⟩ = some (.int .i8 a0) := gcell g1 (by simp [go_sem])
  have ca1 : w1.cell? ⟨w.heap.size, 1, none⟩ = some (.int .i8 a1) := gcell g1 (by simp [go_sem])
  have cb0 : w1.cell? ⟨w.heap.size + 1, 0, none⟩ = some (.int .i8 a2) := gcell g1 (by simp [go_sem])
  have cb1 : w1.cell? ⟨w.heap.size + 1, 1, none⟩ = some (.int .i8 a3) := gcell g1 (by simp [go_sem])
  have cc0 : w1.cell? ⟨w.heap.size + 1 + 1, 0, none⟩ = some (.int .i8 a4) := gcell g1 (by simp [go_sem])
  have cc1 : w1.cell? ⟨w.heap.size + 1 + 1, 1, none⟩ = some (.int .i8 a5) := gcell g1 (by simp [go_sem])
  have gw := grown_trans ((((Grown.refl w).alloc _ _).alloc _ _).alloc _ _) g1
  have zz : w.heap.size + 3 ≤ w1.heap.size := by have := g1.2.2; simp at this; omega
  have z_ca : w.heap.size < w1.heap.size := by omega
  have z_cb : w.heap.size + 1 < w1.heap.size := by omega
  have z_cc : w.heap.size + 1 + 1 < w1.heap.size := by omega
  clear g1 zz
  go_wp2_with fail
  refine (of_named a0 a1 x _ (by omega) (by omega) (by omega) (by omega) D.out.1 Q.out.1 fx).mono ?_
  rintro e w2 ⟨rfl, g2⟩
  replace ca0 := gcell g2 (ca0)
  replace ca1 := gcell g2 (ca1)
  replace cb0 := gcell g2 (cb0)
  replace cb1 := gcell g2 (cb1)
  replace cc0 := gcell g2 (cc0)
  replace cc1 := gcell g2 (cc1)
  have zz := g2.2.2
  replace z_ca : w.heap.size < w2.heap.size := by omega
  replace z_cb : w.heap.size + 1 < w2.heap.size := by omega
  replace z_cc : w.heap.size + 1 + 1 < w2.heap.size := by omega
  replace gw := grown_trans gw g2
  clear g2 zz
  go_wp2_with fail
  refine (of_named a2 a3 y _ (by omega) (by omega) (by omega) (by omega) D.out.2.1 Q.out.2.1 fy).mono ?_
  rintro e w3 ⟨rfl, g3⟩
  replace ca0 := gcell g3 (cell_old ca0 _ _)
  replace ca1 := gcell g3 (cell_old ca1 _ _)
  replace cb0 := gcell g3 (cell_old cb0 _ _)
  replace cb1 := gcell g3 (cell_old cb1 _ _)
  replace cc0 := gcell g3 (cell_old cc0 _ _)
  replace cc1 := gcell g3 (cell_old cc1 _ _)
  have zz := ge_alloc g3
  replace z_ca : w.heap.size < w3.heap.size := by omega
  replace z_cb : w.heap.size + 1 < w3.heap.size := by omega
  replace z_cc : w.heap.size + 1 + 1 < w3.heap.size := by omega
  have cx0 : w3.cell? ⟨w2.heap.size, 0, none⟩ = some (.int .i64 x.num) := gcell g3 (by simp [go_sem])
  have cx1 : w3.cell? ⟨w2.heap.size, 1, none⟩ = some (.int .i64 (x.den : Int)) := gcell g3 (by simp [go_sem])
  have z_cx : w2.heap.size < w3.heap.size := by omega
  replace gw := grown_trans (gw.alloc _ _) g3
  clear g3 zz
  go_wp2_with fail
  refine (of_named a4 a5 z _ (by omega) (by omega) (by omega) (by omega) D.out.2.2 Q.out.2.2.1 fz).mono ?_
  rintro e w4 ⟨rfl, g4⟩
  replace ca0 := gcell g4 (cell_old ca0 _ _)
  replace ca1 := gcell g4 (cell_old ca1 _ _)
  replace cb0 := gcell g4 (cell_old cb0 _ _)
  replace cb1 := gcell g4 (cell_old cb1 _ _)
  replace cc0 := gcell g4 (cell_old cc0 _ _)
  replace cc1 := gcell g4 (cell_old cc1 _ _)
  replace cx0 := gcell g4 (cell_old cx0 _ _)
  replace cx1 := gcell g4 (cell_old cx1 _ _)
  have zz := ge_alloc g4
  replace z_ca : w.heap.size < w4.heap.size := by omega
  replace z_cb : w.heap.size + 1 < w4.heap.size := by omega
  replace z_cc : w.heap.size + 1 + 1 < w4.heap.size := by omega
  replace z_cx : w2.heap.size < w4.heap.size := by omega
  have cy0 : w4.cell? ⟨w3.heap.size, 0, none⟩ = some (.int .i64 y.num) := gcell g4 (by simp [go_sem])
  have cy1 : w4.cell? ⟨w3.heap.size, 1, none⟩ = some (.int .i64 (y.den : Int)) := gcell g4 (by simp [go_sem])
  have z_cy : w3.heap.size < w4.heap.size := by omega
  replace gw := grown_trans (gw.alloc _ _) g4
  clear g4 zz
  go_wp2_with fail
  refine (add_named x y p _ fx fy Q.out.2.2.2.1 fp).mono ?_
  rintro e w5 ⟨rfl, g5⟩
  replace ca0 := gcell g5 (cell_old ca0 _ _)
  replace ca1 := gcell g5 (cell_old ca1 _ _)
  replace cb0 := gcell g5 (cell_old cb0 _ _)
  replace cb1 := gcell g5 (cell_old cb1 _ _)
  replace cc0 := gcell g5 (cell_old cc0 _ _)
  replace cc1 := gcell g5 (cell_old cc1 _ _)
  replace cx0 := gcell g5 (cell_old cx0 _ _)
  replace cx1 := gcell g5 (cell_old cx1 _ _)
  replace cy0 := gcell g5 (cell_old cy0 _ _)
  replace cy1 := gcell g5 (cell_old cy1 _ _)
  have zz := ge_alloc g5
  replace z_ca : w.heap.size < w5.heap.size := by omega
  replace z_cb : w.heap.size + 1 < w5.heap.size := by omega
  replace z_cc : w.heap.size + 1 + 1 < w5.heap.size := by omega
  replace z_cx : w2.heap.size < w5.heap.size := by omega
  replace z_cy : w3.heap.size < w5.heap.size := by omega
  have cz0 : w5.cell? ⟨w4.heap.size, 0, none⟩ = some (.int .i64 z.num) := gcell g5 (by simp [go_sem])
  have cz1 : w5.cell? ⟨w4.heap.size, 1, none⟩ = some (.int .i64 (z.den : Int)) := gcell g5 (by simp [go_sem])
  have z_cz : w4.heap.size < w5.heap.size := by omega
  replace gw := grown_trans (gw.alloc _ _) g5
  clear g5 zz
  clear ca0 ca1
  clear cb0 cb1
  clear cc0 cc1
  clear z_ca z_cb z_cc
  go_wp2_with fail
  refine (add_named y x p _ fy fx Q.out.2.2.2.2.1 fp).mono ?_
  rintro e w6 ⟨rfl, g6⟩
  replace cx0 := gcell g6 (cell_old cx0 _ _)
  replace cx1 := gcell g6 (cell_old cx1 _ _)
  replace cy0 := gcell g6 (cell_old cy0 _ _)
  replace cy1 := gcell g6 (cell_old cy1 _ _)
  replace cz0 := gcell g6 (cell_old cz0 _ _)
  replace cz1 := gcell g6 (cell_old cz1 _ _)
  have zz := ge_alloc g6
  replace z_cx : w2.heap.size < w6.heap.size := by omega
  replace z_cy : w3.heap.size < w6.heap.size := by omega
  replace z_cz : w4.heap.size < w6.heap.size := by omega
  have cp0 : w6.cell? ⟨w5.heap.size, 0, none⟩ = some (.int .i64 p.num) := gcell g6 (by simp [go_sem])
  have cp1 : w6.cell? ⟨w5.heap.size, 1, none⟩ = some (.int .i64 (p.den : Int)) := gcell g6 (by simp [go_sem])
  have z_cp : w5.heap.size < w6.heap.size := by omega
  replace gw := grown_trans (gw.alloc _ _) g6
  clear g6 zz
  go_wp2_with fail
  refine (add_named p z s _ fp fz Q.out.2.2.2.2.2.2.1 fs).mono ?_
  rintro e w7 ⟨rfl, g7⟩
  replace cx0 := gcell g7 (cell_old cx0 _ _)
  replace cx1 := gcell g7 (cell_old cx1 _ _)
  replace cy0 := gcell g7 (cell_old cy0 _ _)
  replace cy1 := gcell g7 (cell_old cy1 _ _)
  replace cz0 := gcell g7 (cell_old cz0 _ _)
  replace cz1 := gcell g7 (cell_old cz1 _ _)
  replace cp0 := gcell g7 (cell_old cp0 _ _)
  replace cp1 := gcell g7 (cell_old cp1 _ _)
  have zz := ge_alloc g7
  replace z_cx : w2.heap.size < w7.heap.size := by omega
  replace z_cy : w3.heap.size < w7.heap.size := by omega
  replace z_cz : w4.heap.size < w7.heap.size := by omega
  replace z_cp : w5.heap.size < w7.heap.size := by omega
  have co0 : w7.cell? ⟨w6.heap.size, 0, none⟩ = some (.int .i64 p.num) := gcell g7 (by simp [go_sem])
  have co1 : w7.cell? ⟨w6.heap.size, 1, none⟩ = some (.int .i64 (p.den : Int)) := gcell g7 (by simp [go_sem])
  have z_co : w6.heap.size < w7.heap.size := by omega
  replace gw := grown_trans (gw.alloc _ _) g7
  clear g7 zz
  go_wp2_with fail
  refine (add_named y z q _ fy fz Q.out.2.2.2.2.2.1 fq).mono ?_
  rintro e w8 ⟨rfl, g8⟩
  replace cx0 := gcell g8 (cell_old cx0 _ _)
  replace cx1 := gcell g8 (cell_old cx1 _ _)
  replace cy0 := gcell g8 (cell_old cy0 _ _)
  replace cy1 := gcell g8 (cell_old cy1 _ _)
  replace cz0 := gcell g8 (cell_old cz0 _ _)
  replace cz1 := gcell g8 (cell_old cz1 _ _)
  replace cp0 := gcell g8 (cell_old cp0 _ _)
  replace cp1 := gcell g8 (cell_old cp1 _ _)
  replace co0 := gcell g8 (cell_old co0 _ _)
  replace co1 := gcell g8 (cell_old co1 _ _)
  have zz := ge_alloc g8
  replace z_cx : w2.heap.size < w8.heap.size := by omega
  replace z_cy : w3.heap.size < w8.heap.size := by omega
  replace z_cz : w4.heap.size < w8.heap.size := by omega
  replace z_cp : w5.heap.size < w8.heap.size := by omega
  replace z_co : w6.heap.size < w8.heap.size := by omega
  have cs0 : w8.cell? ⟨w7.heap.size, 0, none⟩ = some (.int .i64 s.num) := gcell g8 (by simp [go_sem])
  have cs1 : w8.cell? ⟨w7.heap.size, 1, none⟩ = some (.int .i64 (s.den : Int)) := gcell g8 (by simp [go_sem])
  have z_cs : w7.heap.size < w8.heap.size := by omega
  replace gw := grown_trans (gw.alloc _ _) g8
  clear g8 zz
  go_wp2_with fail
  refine (add_named x q s _ fx fq Q.out.2.2.2.2.2.2.2.1 fs).mono ?_
  rintro e w9 ⟨rfl, g9⟩
  replace cx0 := gcell g9 (cell_old cx0 _ _)
  replace cx1 := gcell g9 (cell_old cx1 _ _)
  replace cy0 := gcell g9 (cell_old cy0 _ _)
  replace cy1 := gcell g9 (cell_old cy1 _ _)
  replace cz0 := gcell g9 (cell_old cz0 _ _)
  replace cz1 := gcell g9 (cell_old cz1 _ _)
  replace cp0 := gcell g9 (cell_old cp0 _ _)
  replace cp1 := gcell g9 (cell_old cp1 _ _)
  replace co0 := gcell g9 (cell_old co0 _ _)
  replace co1 := gcell g9 (cell_old co1 _ _)
  replace cs0 := gcell g9 (cell_old cs0 _ _)
  replace cs1 := gcell g9 (cell_old cs1 _ _)
  have zz := ge_alloc g9
  replace z_cx : w2.heap.size < w9.heap.size := by omega
  replace z_cy : w3.heap.size < w9.heap.size := by omega
  replace z_cz : w4.heap.size < w9.heap.size := by omega
  replace z_cp : w5.heap.size < w9.heap.size := by omega
  replace z_co : w6.heap.size < w9.heap.size := by omega
  replace z_cs : w7.heap.size < w9.heap.size := by omega
  have cq0 : w9.cell? ⟨w8.heap.size, 0, none⟩ = some (.int .i64 q.num) := gcell g9 (by simp [go_sem])
  have cq1 : w9.cell? ⟨w8.heap.size, 1, none⟩ = some (.int .i64 (q.den : Int)) := gcell g9 (by simp [go_sem])
  have z_cq : w8.heap.size < w9.heap.size := by omega
  replace gw := grown_trans (gw.alloc _ _) g9
  clear g9 zz
  go_wp2_with fail
  refine (sub_named p y x _ fp fy Q.out.2.2.2.2.2.2.2.2.1 fx).mono ?_
  rintro e w10 ⟨rfl, g10⟩
  replace cx0 := gcell g10 (cell_old cx0 _ _)
  replace cx1 := gcell g10 (cell_old cx1 _ _)
  replace cy0 := gcell g10 (cell_old cy0 _ _)
  replace cy1 := gcell g10 (cell_old cy1 _ _)
  replace cz0 := gcell g10 (cell_old cz0 _ _)
  replace cz1 := gcell g10 (cell_old cz1 _ _)
  replace cp0 := gcell g10 (cell_old cp0 _ _)
  replace cp1 := gcell g10 (cell_old cp1 _ _)
  replace co0 := gcell g10 (cell_old co0 _ _)
  replace co1 := gcell g10 (cell_old co1 _ _)
  replace cs0 := gcell g10 (cell_old cs0 _ _)
  replace cs1 := gcell g10 (cell_old cs1 _ _)
  replace cq0 := gcell g10 (cell_old cq0 _ _)
  replace cq1 := gcell g10 (cell_old cq1 _ _)
  have zz := ge_alloc g10
  replace z_cx : w2.heap.size < w10.heap.size := by omega
  replace z_cy : w3.heap.size < w10.heap.size := by omega
  replace z_cz : w4.heap.size < w10.heap.size := by omega
  replace z_cp : w5.heap.size < w10.heap.size := by omega
  replace z_co : w6.heap.size < w10.heap.size := by omega
  replace z_cs : w7.heap.size < w10.heap.size := by omega
  replace z_cq : w8.heap.size < w10.heap.size := by omega
  have ct0 : w10.cell? ⟨w9.heap.size, 0, none⟩ = some (.int .i64 s.num) := gcell g10 (by simp [go_sem])
  have ct1 : w10.cell? ⟨w9.heap.size, 1, none⟩ = some (.int .i64 (s.den : Int)) := gcell g10 (by simp [go_sem])
  have z_ct : w9.heap.size < w10.heap.size := by omega
  replace gw := grown_trans (gw.alloc _ _) g10
  clear g10 zz
  go_wp2_with fail
  refine (mul_named x q m _ fx fq Q.out.2.2.2.2.2.2.2.2.2.1 fm).mono ?_
  rintro e w11 ⟨rfl, g11⟩
  replace cx0 := gcell g11 (cell_old cx0 _ _)
  replace cx1 := gcell g11 (cell_old cx1 _ _)
  replace cy0 := gcell g11 (cell_old cy0 _ _)
  replace cy1 := gcell g11 (cell_old cy1 _ _)
  replace cz0 := gcell g11 (cell_old cz0 _ _)
  replace cz1 := gcell g11 (cell_old cz1 _ _)
  replace cp0 := gcell g11 (cell_old cp0 _ _)
  replace cp1 := gcell g11 (cell_old cp1 _ _)
  replace co0 := gcell g11 (cell_old co0 _ _)
  replace co1 := gcell g11 (cell_old co1 _ _)
  replace cs0 := gcell g11 (cell_old cs0 _ _)
  replace cs1 := gcell g11 (cell_old cs1 _ _)
  replace cq0 := gcell g11 (cell_old cq0 _ _)
  replace cq1 := gcell g11 (cell_old cq1 _ _)
  replace ct0 := gcell g11 (cell_old ct0 _ _)
  replace ct1 := gcell g11 (cell_old ct1 _ _)
  have zz := ge_alloc g11
  replace z_cx : w2.heap.size < w11.heap.size := by omega
  replace z_cy : w3.heap.size < w11.heap.size := by omega
  replace z_cz : w4.heap.size < w11.heap.size := by omega
  replace z_cp : w5.heap.size < w11.heap.size := by omega
  replace z_co : w6.heap.size < w11.heap.size := by omega
  replace z_cs : w7.heap.size < w11.heap.size := by omega
  replace z_cq : w8.heap.size < w11.heap.size := by omega
  replace z_ct : w9.heap.size < w11.heap.size := by omega
  have cb0 : w11.cell? ⟨w10.heap.size, 0, none⟩ = some (.int .i64 x.num) := gcell g11 (by simp [go_sem])
  have cb1 : w11.cell? ⟨w10.heap.size, 1, none⟩ = some (.int .i64 (x.den : Int)) := gcell g11 (by simp [go_sem])
  have z_cb : w10.heap.size < w11.heap.size := by omega
  replace gw := grown_trans (gw.alloc _ _) g11
  clear g11 zz
  go_wp2_with fail
  refine (mul_named x y k _ fx fy Q.out.2.2.2.2.2.2.2.2.2.2.1 fk).mono ?_
  rintro e w12 ⟨rfl, g12⟩
  replace cx0 := gcell g12 (cell_old cx0 _ _)
  replace cx1 := gcell g12 (cell_old cx1 _ _)
  replace cy0 := gcell g12 (cell_old cy0 _ _)
  replace cy1 := gcell g12 (cell_old cy1 _ _)
  replace cz0 := gcell g12 (cell_old cz0 _ _)
  replace cz1 := gcell g12 (cell_old cz1 _ _)
  replace cp0 := gcell g12 (cell_old cp0 _ _)
  replace cp1 := gcell g12 (cell_old cp1 _ _)
  replace co0 := gcell g12 (cell_old co0 _ _)
  replace co1 := gcell g12 (cell_old co1 _ _)
  replace cs0 := gcell g12 (cell_old cs0 _ _)
  replace cs1 := gcell g12 (cell_old cs1 _ _)
  replace cq0 := gcell g12 (cell_old cq0 _ _)
  replace cq1 := gcell g12 (cell_old cq1 _ _)
  replace ct0 := gcell g12 (cell_old ct0 _ _)
  replace ct1 := gcell g12 (cell_old ct1 _ _)
  replace cb0 := gcell g12 (cell_old cb0 _ _)
  replace cb1 := gcell g12 (cell_old cb1 _ _)
  have zz := ge_alloc g12
  replace z_cx : w2.heap.size < w12.heap.size := by omega
  replace z_cy : w3.heap.size < w12.heap.size := by omega
  replace z_cz : w4.heap.size < w12.heap.size := by omega
  replace z_cp : w5.heap.size < w12.heap.size := by omega
  replace z_co : w6.heap.size < w12.heap.size := by omega
  replace z_cs : w7.heap.size < w12.heap.size := by omega
  replace z_cq : w8.heap.size < w12.heap.size := by omega
  replace z_ct : w9.heap.size < w12.heap.size := by omega
  replace z_cb : w10.heap.size < w12.heap.size := by omega
  have cm0 : w12.cell? ⟨w11.heap.size, 0, none⟩ = some (.int .i64 m.num) := gcell g12 (by simp [go_sem])
  have cm1 : w12.cell? ⟨w11.heap.size, 1, none⟩ = some (.int .i64 (m.den : Int)) := gcell g12 (by simp [go_sem])
  have z_cm : w11.heap.size < w12.heap.size := by omega
  replace gw := grown_trans (gw.alloc _ _) g12
  clear g12 zz
  go_wp2_with fail
  refine (mul_named x z r _ fx fz Q.out.2.2.2.2.2.2.2.2.2.2.2.1 fr).mono ?_
  rintro e w13 ⟨rfl, g13⟩
  replace cx0 := gcell g13 (cell_old cx0 _ _)
  replace cx1 := gcell g13 (cell_old cx1 _ _)
  replace cy0 := gcell g13 (cell_old cy0 _ _)
  replace cy1 := gcell g13 (cell_old cy1 _ _)
  replace cz0 := gcell g13 (cell_old cz0 _ _)
  replace cz1 := gcell g13 (cell_old cz1 _ _)
  replace cp0 := gcell g13 (cell_old cp0 _ _)
  replace cp1 := gcell g13 (cell_old cp1 _ _)
  replace co0 := gcell g13 (cell_old co0 _ _)
  replace co1 := gcell g13 (cell_old co1 _ _)
  replace cs0 := gcell g13 (cell_old cs0 _ _)
  replace cs1 := gcell g13 (cell_old cs1 _ _)
  replace cq0 := gcell g13 (cell_old cq0 _ _)
  replace cq1 := gcell g13 (cell_old cq1 _ _)
  replace ct0 := gcell g13 (cell_old ct0 _ _)
  replace ct1 := gcell g13 (cell_old ct1 _ _)
  replace cb0 := gcell g13 (cell_old cb0 _ _)
  replace cb1 := gcell g13 (cell_old cb1 _ _)
  replace cm0 := gcell g13 (cell_old cm0 _ _)
  replace cm1 := gcell g13 (cell_old cm1 _ _)
  have zz := ge_alloc g13
  replace z_cx : w2.heap.size < w13.heap.size := by omega
  replace z_cy : w3.heap.size < w13.heap.size := by omega
  replace z_cz : w4.heap.size < w13.heap.size := by omega
  replace z_cp : w5.heap.size < w13.heap.size := by omega
  replace z_co : w6.heap.size < w13.heap.size := by omega
  replace z_cs : w7.heap.size < w13.heap.size := by omega
  replace z_cq : w8.heap.size < w13.heap.size := by omega
  replace z_ct : w9.heap.size < w13.heap.size := by omega
  replace z_cb : w10.heap.size < w13.heap.size := by omega
  replace z_cm : w11.heap.size < w13.heap.size := by omega
  have ck0 : w13.cell? ⟨w12.heap.size, 0, none⟩ = some (.int .i64 k.num) := gcell g13 (by simp [go_sem])
  have ck1 : w13.cell? ⟨w12.heap.size, 1, none⟩ = some (.int .i64 (k.den : Int)) := gcell g13 (by simp [go_sem])
  have z_ck : w12.heap.size < w13.heap.size := by omega
  replace gw := grown_trans (gw.alloc _ _) g13
  clear g13 zz
  go_wp2_with fail
  refine (add_named k r m _ fk fr Q.out.2.2.2.2.2.2.2.2.2.2.2.2.1 fm).mono ?_
  rintro e w14 ⟨rfl, g14⟩
  replace cx0 := gcell g14 (cell_old cx0 _ _)
  replace cx1 := gcell g14 (cell_old cx1 _ _)
  replace cy0 := gcell g14 (cell_old cy0 _ _)
  replace cy1 := gcell g14 (cell_old cy1 _ _)
  replace cz0 := gcell g14 (cell_old cz0 _ _)
  replace cz1 := gcell g14 (cell_old cz1 _ _)
  replace cp0 := gcell g14 (cell_old cp0 _ _)
  replace cp1 := gcell g14 (cell_old cp1 _ _)
  replace co0 := gcell g14 (cell_old co0 _ _)
  replace co1 := gcell g14 (cell_old co1 _ _)
  replace cs0 := gcell g14 (cell_old cs0 _ _)
  replace cs1 := gcell g14 (cell_old cs1 _ _)
  replace cq0 := gcell g14 (cell_old cq0 _ _)
  replace cq1 := gcell g14 (cell_old cq1 _ _)
  replace ct0 := gcell g14 (cell_old ct0 _ _)
  replace ct1 := gcell g14 (cell_old ct1 _ _)
  replace cb0 := gcell g14 (cell_old cb0 _ _)
  replace cb1 := gcell g14 (cell_old cb1 _ _)
  replace cm0 := gcell g14 (cell_old cm0 _ _)
  replace cm1 := gcell g14 (cell_old cm1 _ _)
  replace ck0 := gcell g14 (cell_old ck0 _ _)
  replace ck1 := gcell g14 (cell_old ck1 _ _)
  have zz := ge_alloc g14
  replace z_cx : w2.heap.size < w14.heap.size := by omega
  replace z_cy : w3.heap.size < w14.heap.size := by omega
  replace z_cz : w4.heap.size < w14.heap.size := by omega
  replace z_cp : w5.heap.size < w14.heap.size := by omega
  replace z_co : w6.heap.size < w14.heap.size := by omega
  replace z_cs : w7.heap.size < w14.heap.size := by omega
  replace z_cq : w8.heap.size < w14.heap.size := by omega
  replace z_ct : w9.heap.size < w14.heap.size := by omega
  replace z_cb : w10.heap.size < w14.heap.size := by omega
  replace z_cm : w11.heap.size < w14.heap.size := by omega
  replace z_ck : w12.heap.size < w14.heap.size := by omega
  have cr0 : w14.cell? ⟨w13.heap.size, 0, none⟩ = some (.int .i64 r.num) := gcell g14 (by simp [go_sem])
  have cr1 : w14.cell? ⟨w13.heap.size, 1, none⟩ = some (.int .i64 (r.den : Int)) := gcell g14 (by simp [go_sem])
  have z_cr : w13.heap.size < w14.heap.size := by omega
  replace gw := grown_trans (gw.alloc _ _) g14
  clear g14 zz
  go_upto_region 18 with fail
  clear cz0 cz1
  clear cq0 cq1
  clear ck0 ck1
  clear cr0 cr1
  replace cx0 := cell_old cx0 #[.int .i64 m.num, .int .i64 (m.den : Int)] 37
  replace cx1 := cell_old cx1 #[.int .i64 m.num, .int .i64 (m.den : Int)] 37
  replace cy0 := cell_old cy0 #[.int .i64 m.num, .int .i64 (m.den : Int)] 37
  replace cy1 := cell_old cy1 #[.int .i64 m.num, .int .i64 (m.den : Int)] 37
  replace cp0 := cell_old cp0 #[.int .i64 m.num, .int .i64 (m.den : Int)] 37
  replace cp1 := cell_old cp1 #[.int .i64 m.num, .int .i64 (m.den : Int)] 37
  replace co0 := cell_old co0 #[.int .i64 m.num, .int .i64 (m.den : Int)] 37
  replace co1 := cell_old co1 #[.int .i64 m.num, .int .i64 (m.den : Int)] 37
  replace cs0 := cell_old cs0 #[.int .i64 m.num, .int .i64 (m.den : Int)] 37
  replace cs1 := cell_old cs1 #[.int .i64 m.num, .int .i64 (m.den : Int)] 37
  replace ct0 := cell_old ct0 #[.int .i64 m.num, .int .i64 (m.den : Int)] 37
  replace ct1 := cell_old ct1 #[.int .i64 m.num, .int .i64 (m.den : Int)] 37
  replace cb0 := cell_old cb0 #[.int .i64 m.num, .int .i64 (m.den : Int)] 37
  replace cb1 := cell_old cb1 #[.int .i64 m.num, .int .i64 (m.den : Int)] 37
  replace cm0 := cell_old cm0 #[.int .i64 m.num, .int .i64 (m.den : Int)] 37
  replace cm1 := cell_old cm1 #[.int .i64 m.num, .int .i64 (m.den : Int)] 37
  have cn0 : (w14.alloc (.cells #[.int .i64 m.num, .int .i64 (m.den : Int)] 37)).cell? ⟨w14.heap.size, 0, none⟩ = some (.int .i64 m.num) := by simp [go_sem]
  have cn1 : (w14.alloc (.cells #[.int .i64 m.num, .int .i64 (m.den : Int)] 37)).cell? ⟨w14.heap.size, 1, none⟩ = some (.int .i64 (m.den : Int)) := by simp [go_sem]
  replace gw := gw.alloc #[.int .i64 m.num, .int .i64 (m.den : Int)] 37
  generalize (w14.alloc (.cells #[.int .i64 m.num, .int .i64 (m.den : Int)] 37)) = W at *
  have e1 := Q.out.2.2.2.2.2.2.2.2.2.2.2.2.2.1
  have e2 := Q.out.2.2.2.2.2.2.2.2.2.2.2.2.2.2.1
  have e3 := Q.out.2.2.2.2.2.2.2.2.2.2.2.2.2.2.2.1
  have e4 := Q.out.2.2.2.2.2.2.2.2.2.2.2.2.2.2.2.2.1
  have e5 : (g - f == min 1 ((x.den : Int) - 1)) = true := by rw [Q.out.2.2.2.2.2.2.2.2.2.2.2.2.2.2.2.2.2]; simp
  have v1 : IntKind.i64.wrap (-c) = -c := IntWalk.i64_in _ ⟨by omega, by omega⟩
  have v2 : IntKind.i64.wrap (g - f) = g - f := IntWalk.i64_in _ ⟨by omega, by omega⟩
  have v3 : IntKind.i64.wrap ((x.den : Int) - 1) = (x.den : Int) - 1 := IntWalk.i64_in _ ⟨by omega, by omega⟩
  go_region_held3 (fun w' => w'.cell? ⟨w2.heap.size, 0, none⟩ = some (.int .i64 x.num) ∧ w'.cell? ⟨w2.heap.size, 1, none⟩ = some (.int .i64 (x.den : Int)) ∧ w'.cell? ⟨w3.heap.size, 0, none⟩ = some (.int .i64 y.num) ∧ w'.cell? ⟨w3.heap.size, 1, none⟩ = some (.int .i64 (y.den : Int)) ∧ w'.cell? ⟨w5.heap.size, 0, none⟩ = some (.int .i64 p.num) ∧ w'.cell? ⟨w5.heap.size, 1, none⟩ = some (.int .i64 (p.den : Int)) ∧ w'.cell? ⟨w6.heap.size, 0, none⟩ = some (.int .i64 p.num) ∧ w'.cell? ⟨w6.heap.size, 1, none⟩ = some (.int .i64 (p.den : Int)) ∧ w'.cell? ⟨w7.heap.size, 0, none⟩ = some (.int .i64 s.num) ∧ w'.cell? ⟨w7.heap.size, 1, none⟩ = some (.int .i64 (s.den : Int)) ∧ w'.cell? ⟨w9.heap.size, 0, none⟩ = some (.int .i64 s.num) ∧ w'.cell? ⟨w9.heap.size, 1, none⟩ = some (.int .i64 (s.den : Int)) ∧ w'.cell? ⟨w10.heap.size, 0, none⟩ = some (.int .i64 x.num) ∧ w'.cell? ⟨w10.heap.size, 1, none⟩ = some (.int .i64 (x.den : Int)) ∧ w'.cell? ⟨w11.heap.size, 0, none⟩ = some (.int .i64 m.num) ∧ w'.cell? ⟨w11.heap.size, 1, none⟩ = some (.int .i64 (m.den : Int)) ∧ w'.cell? ⟨w14.heap.size, 0, none⟩ = some (.int .i64 m.num) ∧ w'.cell? ⟨w14.heap.size, 1, none⟩ = some (.int .i64 (m.den : Int)))
    (refine ⟨?_, ?_, ?_, ?_, ?_, ?_, ?_, ?_, ?_, ?_, ?_, ?_, ?_, ?_, ?_, ?_, ?_, ?_⟩ <;> (repeat (first | assumption | refine cell_drew ?_ | refine cell_drewN ?_ _)))
    (first
      | (go_at_call 38; ((with_reducible refine (cmp_rat _ _ _ (by assumption) (by assumption)).mono ?_); rintro e wa ⟨rfl, ga⟩; replace cx0 := gcell ga cx0; replace cx1 := gcell ga cx1; replace cy0 := gcell ga cy0; replace cy1 := gcell ga cy1; replace cp0 := gcell ga cp0; replace cp1 := gcell ga cp1; replace co0 := gcell ga co0; replace co1 := gcell ga co1; replace cs0 := gcell ga cs0; replace cs1 := gcell ga cs1; replace ct0 := gcell ga ct0; replace ct1 := gcell ga ct1; replace cb0 := gcell ga cb0; replace cb1 := gcell ga cb1; replace cm0 := gcell ga cm0; replace cm1 := gcell ga cm1; replace cn0 := gcell ga cn0; replace cn1 := gcell ga cn1; replace gw := grown_trans gw ga; clear ga))
      | (go_at_call 44; ((with_reducible refine (may_yes _ _ _ fm.lo fm.hi (by have := den_pos' m; omega) fm.de (mayR m)).mono ?_); rintro e wb ⟨rfl, gb⟩; replace cx0 := gcell gb cx0; replace cx1 := gcell gb cx1; replace cy0 := gcell gb cy0; replace cy1 := gcell gb cy1; replace cp0 := gcell gb cp0; replace cp1 := gcell gb cp1; replace co0 := gcell gb co0; replace co1 := gcell gb co1; replace cs0 := gcell gb cs0; replace cs1 := gcell gb cs1; replace ct0 := gcell gb ct0; replace ct1 := gcell gb ct1; replace cb0 := gcell gb cb0; replace cb1 := gcell gb cb1; replace cm0 := gcell gb cm0; replace cm1 := gcell gb cm1; replace cn0 := gcell gb cn0; replace cn1 := gcell gb cn1; replace gw := grown_trans gw gb; clear gb))
      | (go_at_call 41; ((with_reducible refine (ceil_yes _ _ (by assumption)).mono ?_); rintro e wc ⟨rfl, gc⟩; replace cx0 := gcell gc cx0; replace cx1 := gcell gc cx1; replace cy0 := gcell gc cy0; replace cy1 := gcell gc cy1; replace cp0 := gcell gc cp0; replace cp1 := gcell gc cp1; replace co0 := gcell gc co0; replace co1 := gcell gc co1; replace cs0 := gcell gc cs0; replace cs1 := gcell gc cs1; replace ct0 := gcell gc ct0; replace ct1 := gcell gc ct1; replace cb0 := gcell gc cb0; replace cb1 := gcell gc cb1; replace cm0 := gcell gc cm0; replace cm1 := gcell gc cm1; replace cn0 := gcell gc cn0; replace cn1 := gcell gc cn1; replace gw := grown_trans gw gc; clear gc))
      | (go_at_call 39; ((with_reducible refine (floor_yes _ _ (by assumption)).mono ?_); rintro e wd ⟨rfl, gd⟩; replace cx0 := gcell gd cx0; replace cx1 := gcell gd cx1; replace cy0 := gcell gd cy0; replace cy1 := gcell gd cy1; replace cp0 := gcell gd cp0; replace cp1 := gcell gd cp1; replace co0 := gcell gd co0; replace co1 := gcell gd co1; replace cs0 := gcell gd cs0; replace cs1 := gcell gd cs1; replace ct0 := gcell gd ct0; replace ct1 := gcell gd ct1; replace cb0 := gcell gd cb0; replace cb1 := gcell gd cb1; replace cm0 := gcell gd cm0; replace cm1 := gcell gd cm1; replace cn0 := gcell gd cn0; replace cn1 := gcell gd cn1; replace gw := grown_trans gw gd; clear gd)))
  all_goals
    clear e1 e2 e3 e4 e5 v1 v2 v3
    go_wp2
    go_ret
    exact ⟨rfl, gw⟩

/-! ### THE ROW's STEP -/
set_option maxRecDepth 100000 in
theorem lifted (os : Os) (started : os.Started) (H : Type) (enc : TypeId × Value → H) :
    ReturnsInHanded {} Try.checked os 13 .any (Rows.ratioLawsSpec.pre6 enc Try.prog Try.f13 Rows.ratioLawsRow.domain false) (Rows.ratioLawsSpec.post enc Try.prog Try.f13 false true false false) := by
  refine returnsInHanded_of_change (C := Try.checked) own started (by kernel_rfl) Try.func13
    (ChangeSpec.witness6 (enc := enc) (C := Try.checked) false ⟨#[], #[.agg #[.int .i8 0, .int .i8 0], .agg #[.int .i8 0, .int .i8 0], .agg #[.int .i8 0, .int .i8 0]], []⟩ 8 (by kernel_rfl) (by kernel_rfl) (by kernel_rfl) (by kernel_rfl)) ?_
  intro W base args ds gs before hval0 hW hcnd _
  have hval : ∀ (j : Nat) t v, Try.f13.params[j]? = some t → args[j]? = some v → Value.okWide Try.prog W .any base t v := hval0
  have hW' := hW
  obtain ⟨p, q, hA0, hV, rfl, hfz, hnd⟩ := hW
  have hA : DataW.TrodAll enc Try.prog W 0 (fun _ => true) true Try.f13.params.toList args.toList ds p := hA0
  rw [Try.params13] at hA hval
  obtain ⟨v0, vs0, d0, ds0, p0, q0, hargs, rfl, rfl, h0, r0⟩ := trodAll_cons hA
  obtain ⟨v1, vs1, d1, ds1, p1, q1, rfl, rfl, rfl, h1, r1⟩ := trodAll_cons r0
  obtain ⟨v2, vs2, d2, ds2, p2, q2, rfl, rfl, rfl, h2, r2⟩ := trodAll_cons r1
  obtain ⟨rfl, rfl, rfl⟩ := trodAll_nil r2
  obtain rfl : args = #[v0, v1, v2] := by cases args; simp_all
  obtain ⟨rfl, rfl⟩ := trodVars_none hV
  obtain ⟨a0, a1, rfl, rfl, rfl, w0, w1⟩ := open_two Try.underlying51 Try.underlying50 cells51 cells50 (hval 0 51 v0 rfl rfl) h0
  obtain ⟨a2, a3, rfl, rfl, rfl, w2, w3⟩ := open_two Try.underlying51 Try.underlying50 cells51 cells50 (hval 1 51 v1 rfl rfl) h1
  obtain ⟨a4, a5, rfl, rfl, rfl, w4, w5⟩ := open_two Try.underlying51 Try.underlying50 cells51 cells50 (hval 2 51 v2 rfl rfl) h2
  clear hA0 hval0
  simp only [List.append_nil] at hW'
  refine (walk a0 a1 a2 a3 a4 a5 w0 w1 w2 w3 w4 w5 W).mono fun e W' ⟨he, hg⟩ => ?_
  subst he
  exact ⟨_, rfl, post_of_same (pa := []) (pv := []) hW' (fun _ _ _ => (trodAll_cons_mk (shut_bool Try.underlying4 _) trodAll_mk0)) (fun sp _ => (trodAll_cons_mk (shut_two Try.underlying51 Try.underlying50 cells51 cells50 w0 w1) (trodAll_cons_mk (shut_two Try.underlying51 Try.underlying50 cells51 cells50 w2 w3) (trodAll_cons_mk (shut_two Try.underlying51 Try.underlying50 cells51 cells50 w4 w5) trodAll_mk0)))) (fun _ _ => rfl) rfl
    (hg.frame _) hg.2.1 (ok_one (by kernel_rfl) rfl (okWide_bool_mk Try.underlying4 _))⟩

theorem over : Rows.ratioLawsRow.holds Try.pinned (OpenSpec.ofChange Rows.ratioLawsSpec) :=
  OpenClaim.holds_of_wide 13 Try.f13 rfl rfl rfl rfl rfl rfl rfl ⟨rfl, rfl, rfl, rfl, rfl⟩ rfl rfl rfl rfl rfl (by kernel_rfl) Try.func13 (by kernel_rfl)
    (of_decide_eq_true (by kernel_rfl)) (by unfold Func.isWrapper; first | (rw [if_pos (by decide +kernel)]; kernel_rfl) | (rw [if_neg (by decide +kernel)]; exact ⟨rfl, rfl⟩))
    (fun os started H enc _ => lifted os started H enc)

/-- THE STATEMENT -/
theorem proved : Rows.RatioLawsSaid :=
  over
#print axioms proved
end Go.Proofs.Ytkmapegglgcfnaa.ratioLaws
