/- PROVED: for any two pairs of numbers of 64 bits the law RatioReckons answers true: sum, difference, product, which is less, rounded, of small fractions, as the document reckons them; no condition. -/
import Derived.Test.YtkmapegglgcfnaaRows
import Derived.WalkKit
import Derived.ProofKit
import Derived.OpenShut
import Derived.ShutString
import Derived.Deep.DeepCutAuto
import Derived.Deep.RegionHeld3
import Derived.Deep.RegionWith
import Derived.Test.YtkmapegglgcfnaaQg
import Derived.Test.YtkmapegglgcfnaaLex
import Derived.Test.YtkmapegglgcfnaaArr2
namespace Go.Proofs.Ytkmapegglgcfnaa.ratioReckons
open Go.ChangeShapes Go.WideShapes Go.ChangeAt Go.RowKit
open Go.ChangeMaps (open_string shut_string)
set_option linter.unusedVariables false

theorem cells2 : Try.prog.cellsOf 2 = 1 := by kernel_rfl
theorem cells22 : Try.prog.cellsOf 22 = 2 := by kernel_rfl
theorem own : ownKnob Try.prog.godebug = none := by kernel_rfl

/-! ### THE WALK -/
/- Where both are fractions, of small numbers. -/
set_option maxRecDepth 100000 in
set_option maxHeartbeats 8000000 in
theorem main (a0 a1 a2 a3 : Int) (h0 : -9223372036854775808 ≤ a0) (h1 : a0 ≤ 9223372036854775807) (h2 : -9223372036854775808 ≤ a1) (h3 : a1 ≤ 9223372036854775807) (h4 : -9223372036854775808 ≤ a2) (h5 : a2 ≤ 9223372036854775807) (h6 : -9223372036854775808 ≤ a3) (h7 : a3 ≤ 9223372036854775807) (l0 : -536870912 ≤ a0) (u0 : a0 ≤ 536870912) (l1 : -536870912 ≤ a1) (u1 : a1 ≤ 536870912) (l2 : -536870912 ≤ a2) (u2 : a2 ≤ 536870912) (l3 : -536870912 ≤ a3) (u3 : a3 ≤ 536870912) (D1 : Hid (a1 ≠ 0)) (D3 : Hid (a3 ≠ 0)) (t1 : (a1 == 0) = false) (t3 : (a3 == 0) = false) (w : World) :
    Calls Try.prog 10 #[.agg #[.int .i64 a0, .int .i64 a1], .agg #[.int .i64 a2, .int .i64 a3]] w fun e w' => e = .returned (.bool true) ∧ Grown w w' := by
  obtain ⟨x, hx⟩ : ∃ x, Rat.divInt a0 a1 = x := ⟨_, rfl⟩
  obtain ⟨y, hy⟩ : ∃ x, Rat.divInt a2 a3 = x := ⟨_, rfl⟩
  have bx : BQ x 536870912 536870912 := by rw [← hx]; exact BQ.of D1.out (by omega) (by omega)
  have by' : BQ y 536870912 536870912 := by rw [← hy]; exact BQ.of D3.out (by omega) (by omega)
  have fx : FitQ x := bx.fit (by omega) (by omega)
  have fy : FitQ y := by'.fit (by omega) (by omega)
  have sx : SmallQ x := bx.small (by omega) (by omega)
  have sy : SmallQ y := by'.small (by omega) (by omega)
  obtain ⟨s, hs⟩ : ∃ u, x + y = u := ⟨_, rfl⟩
  obtain ⟨d, hd⟩ : ∃ u, x - y = u := ⟨_, rfl⟩
  obtain ⟨m, hm⟩ : ∃ u, x * y = u := ⟨_, rfl⟩
  have fs : FitQ s := by have := bx.add by'; rw [hs] at this; exact this.fit (by omega) (by omega)
  have fd : FitQ d := by have := bx.sub by'; rw [hd] at this; exact this.fit (by omega) (by omega)
  have fm : FitQ m := by have := bx.mul by'; rw [hm] at this; exact this.fit (by omega) (by omega)
  obtain ⟨f, hf⟩ : ∃ f, x.floor = f := ⟨_, rfl⟩
  obtain ⟨c, hc⟩ : ∃ f, x.ceil = f := ⟨_, rfl⟩
  have px := den_pos' x
  have py := den_pos' y
  have xl := sx.lo
  have xh := sx.hi
  have xd := sx.de
  have yl := sy.lo
  have yh := sy.hi
  have yd := sy.de
  obtain ⟨gx, gy, n, k, e, r, pr⟩ := prods fx.lo fx.hi fx.de fy.lo fy.hi fy.de (mayR x) (mayR y)
  have hf' : flo x.num x.den = f := by rw [flo_floor, hf]
  have hc' : cei x.num x.den = c := by rw [cei_ceil, hc]
  have Q := Lib.hid (And.intro hx (And.intro hy (And.intro hs (And.intro hd (And.intro hm (And.intro hf (And.intro hc (And.intro hf' hc'))))))))
  have PR := Lib.hid pr
  clear hx hy hs hd hm hf hc hf' hc' pr bx by'
  go_enter Try.func10, Try.ntmps10
  go_wp2_with fail
  refine (awake2_true _).mono ?_
  rintro e w1 ⟨rfl, g1⟩
  have ca0 : w1.cell? ⟨w.heap.size, 0, none⟩ = some (.int .i64 a0) := gcell g1 (by simp [go_sem])
  have ca1 : w1.cell? ⟨w.heap.size, 1, none⟩ = some (.int .i64 a1) := gcell g1 (by simp [go_sem])
  have cb0 : w1.cell? ⟨w.heap.size + 1, 0, none⟩ = some (.int .i64 a2) := gcell g1 (by simp [go_sem])
  have cb1 : w1.cell? ⟨w.heap.size + 1, 1, none⟩ = some (.int .i64 a3) := gcell g1 (by simp [go_sem])
  have gw := grown_trans (((Grown.refl w).alloc _ _).alloc _ _) g1
  have zz : w.heap.size + 2 ≤ w1.heap.size := by have := g1.2.2; simp at this; omega
  have z_ca : w.heap.size < w1.heap.size := by omega
  have z_cb : w.heap.size + 1 < w1.heap.size := by omega
  clear g1 zz
  go_wp2_with fail
  refine (small_yes a0 _ (by omega) (by omega)).mono ?_
  rintro e wz ⟨rfl, rfl⟩
  go_wp2_with fail
  refine (small_yes a1 _ (by omega) (by omega)).mono ?_
  rintro e wz ⟨rfl, rfl⟩
  go_wp2_with fail
  refine (small_yes a2 _ (by omega) (by omega)).mono ?_
  rintro e wz ⟨rfl, rfl⟩
  go_wp2_with fail
  refine (small_yes a3 _ (by omega) (by omega)).mono ?_
  rintro e wz ⟨rfl, rfl⟩
  go_wp2_with fail
  refine (of_named a0 a1 x _ (by omega) (by omega) (by omega) (by omega) D1.out Q.out.1 fx).mono ?_
  rintro e w2 ⟨rfl, g2⟩
  replace ca0 := gcell g2 (ca0)
  replace ca1 := gcell g2 (ca1)
  replace cb0 := gcell g2 (cb0)
  replace cb1 := gcell g2 (cb1)
  have zz := g2.2.2
  replace z_ca : w.heap.size < w2.heap.size := by omega
  replace z_cb : w.heap.size + 1 < w2.heap.size := by omega
  replace gw := grown_trans gw g2
  clear g2 zz
  go_wp2_with fail
  refine (of_named a2 a3 y _ (by omega) (by omega) (by omega) (by omega) D3.out Q.out.2.1 fy).mono ?_
  rintro e w3 ⟨rfl, g3⟩
  replace ca0 := gcell g3 (cell_old ca0 _ _)
  replace ca1 := gcell g3 (cell_old ca1 _ _)
  replace cb0 := gcell g3 (cell_old cb0 _ _)
  replace cb1 := gcell g3 (cell_old cb1 _ _)
  have zz := ge_alloc g3
  replace z_ca : w.heap.size < w3.heap.size := by omega
  replace z_cb : w.heap.size + 1 < w3.heap.size := by omega
  have cx0 : w3.cell? ⟨w2.heap.size, 0, none⟩ = some (.int .i64 x.num) := gcell g3 (by simp [go_sem])
  have cx1 : w3.cell? ⟨w2.heap.size, 1, none⟩ = some (.int .i64 (x.den : Int)) := gcell g3 (by simp [go_sem])
  have z_cx : w2.heap.size < w3.heap.size := by omega
  replace gw := grown_trans (gw.alloc _ _) g3
  clear g3 zz
  go_upto_region 9 with fail
  replace ca0 := cell_old ca0 #[.int .i64 y.num, .int .i64 (y.den : Int)] 37
  replace ca1 := cell_old ca1 #[.int .i64 y.num, .int .i64 (y.den : Int)] 37
  replace cb0 := cell_old cb0 #[.int .i64 y.num, .int .i64 (y.den : Int)] 37
  replace cb1 := cell_old cb1 #[.int .i64 y.num, .int .i64 (y.den : Int)] 37
  replace cx0 := cell_old cx0 #[.int .i64 y.num, .int .i64 (y.den : Int)] 37
  replace cx1 := cell_old cx1 #[.int .i64 y.num, .int .i64 (y.den : Int)] 37
  have cy0 : (w3.alloc (.cells #[.int .i64 y.num, .int .i64 (y.den : Int)] 37)).cell? ⟨w3.heap.size, 0, none⟩ = some (.int .i64 y.num) := by simp [go_sem]
  have cy1 : (w3.alloc (.cells #[.int .i64 y.num, .int .i64 (y.den : Int)] 37)).cell? ⟨w3.heap.size, 1, none⟩ = some (.int .i64 (y.den : Int)) := by simp [go_sem]
  have zW : (w3.alloc (.cells #[.int .i64 y.num, .int .i64 (y.den : Int)] 37)).heap.size = w3.heap.size + 1 := by simp
  replace gw := gw.alloc #[.int .i64 y.num, .int .i64 (y.den : Int)] 37
  generalize (w3.alloc (.cells #[.int .i64 y.num, .int .i64 (y.den : Int)] 37)) = W at *
  replace z_ca : w.heap.size < W.heap.size := by omega
  replace z_cb : w.heap.size + 1 < W.heap.size := by omega
  replace z_cx : w2.heap.size < W.heap.size := by omega
  have z_cy : w3.heap.size < W.heap.size := by omega
  clear zW
  go_cut [9, 10] (fun s9 s10 wx => Pair x y W s9 s10 wx)
  case first =>
    as_aux_lemma =>
      go_region_held3 (fun w' => w'.cell? ⟨w.heap.size, 0, none⟩ = some (.int .i64 a0) ∧ w'.cell? ⟨w.heap.size, 1, none⟩ = some (.int .i64 a1) ∧ w'.cell? ⟨w.heap.size + 1, 0, none⟩ = some (.int .i64 a2) ∧ w'.cell? ⟨w.heap.size + 1, 1, none⟩ = some (.int .i64 a3))
        (refine ⟨?_, ?_, ?_, ?_⟩ <;> (repeat (first | with_reducible assumption | with_reducible refine cell_drewN ?_ _ | with_reducible refine cell_drew ?_ | with_reducible refine cell_old ?_ _ _ | with_reducible refine cell_set ?_ (by omega) _)))
        (first
          | (go_at_call 31; ((with_reducible refine (rof_w a0 a1 x _ (by omega) (by omega) (by omega) (by omega) D1.out Q.out.1).mono ?_); rintro e' wa ⟨rfl, j1, rfl⟩))
          | (go_at_call 31; ((with_reducible refine (rof_w a2 a3 y _ (by omega) (by omega) (by omega) (by omega) D3.out Q.out.2.1).mono ?_); rintro e' wb ⟨rfl, j2, rfl⟩)))
      all_goals (go_wp2_with fail)
      all_goals go_meet
      all_goals exact ⟨_, _, rfl, rfl, by repeat (first | (simp [go_sem]; done) | with_reducible refine set_get (u := .int .i64 0) ?_ _ | with_reducible refine cell_set3 ?_ (by omega) _ | with_reducible refine cell_drewN ?_ _ | with_reducible refine cell_drew ?_ | with_reducible refine cell_old ?_ _ _), by repeat (first | (simp [go_sem]; done) | with_reducible refine set_get (u := .int .i64 0) ?_ _ | with_reducible refine cell_set3 ?_ (by omega) _ | with_reducible refine cell_drewN ?_ _ | with_reducible refine cell_drew ?_ | with_reducible refine cell_old ?_ _ _), by repeat (first | (simp [go_sem]; done) | with_reducible refine set_get (u := .int .i64 0) ?_ _ | with_reducible refine cell_set3 ?_ (by omega) _ | with_reducible refine cell_drewN ?_ _ | with_reducible refine cell_drew ?_ | with_reducible refine cell_old ?_ _ _), by repeat (first | (simp [go_sem]; done) | with_reducible refine set_get (u := .int .i64 0) ?_ _ | with_reducible refine cell_set3 ?_ (by omega) _ | with_reducible refine cell_drewN ?_ _ | with_reducible refine cell_drew ?_ | with_reducible refine cell_old ?_ _ _), by simp [go_sem] <;> omega, by simp [go_sem] <;> omega, by repeat (first | with_reducible exact Grown.refl _ | with_reducible refine Grown.alloc ?_ _ _ | with_reducible refine grown_drewN ?_ _ | with_reducible refine Grown.drew ?_ | with_reducible refine Grown.setCell ?_ (by dsimp only; omega) _)⟩
  case rest =>
    clear ca0 ca1 cb0 cb1
    obtain ⟨b9, b10, rfl, rfl, cu0, cu1, cv0, cv1, zu, zv, gp⟩ := hcut
    rename World => w4
    replace cx0 := gcell gp cx0
    replace cx1 := gcell gp cx1
    replace cy0 := gcell gp cy0
    replace cy1 := gcell gp cy1
    have zp := gp.2.2
    replace gw := grown_trans gw gp
    clear gp
    replace z_cx : w2.heap.size < w4.heap.size := by omega
    replace z_cy : w3.heap.size < w4.heap.size := by omega
    clear zp z_ca z_cb
    go_wp2_with fail
    refine (add_named x y s _ fx fy Q.out.2.2.1 fs).mono ?_
    rintro e w5 ⟨rfl, g5⟩
    replace cx0 := gcell g5 (cx0)
    replace cx1 := gcell g5 (cx1)
    replace cy0 := gcell g5 (cy0)
    replace cy1 := gcell g5 (cy1)
    replace cu0 := gcell g5 (cu0)
    replace cu1 := gcell g5 (cu1)
    replace cv0 := gcell g5 (cv0)
    replace cv1 := gcell g5 (cv1)
    have zz := g5.2.2
    replace z_cx : w2.heap.size < w5.heap.size := by omega
    replace z_cy : w3.heap.size < w5.heap.size := by omega
    replace zu : b9 < w5.heap.size := by omega
    replace zv : b10 < w5.heap.size := by omega
    replace gw := grown_trans gw g5
    clear g5 zz
    go_wp2_with fail
    refine (sub_named x y d _ fx fy Q.out.2.2.2.1 fd).mono ?_
    rintro e w6 ⟨rfl, g6⟩
    replace cx0 := gcell g6 (cell_old cx0 _ _)
    replace cx1 := gcell g6 (cell_old cx1 _ _)
    replace cy0 := gcell g6 (cell_old cy0 _ _)
    replace cy1 := gcell g6 (cell_old cy1 _ _)
    replace cu0 := gcell g6 (cell_old cu0 _ _)
    replace cu1 := gcell g6 (cell_old cu1 _ _)
    replace cv0 := gcell g6 (cell_old cv0 _ _)
    replace cv1 := gcell g6 (cell_old cv1 _ _)
    have zz := ge_alloc g6
    replace z_cx : w2.heap.size < w6.heap.size := by omega
    replace z_cy : w3.heap.size < w6.heap.size := by omega
    replace zu : b9 < w6.heap.size := by omega
    replace zv : b10 < w6.heap.size := by omega
    have cs0 : w6.cell? ⟨w5.heap.size, 0, none⟩ = some (.int .i64 s.num) := gcell g6 (by simp [go_sem])
    have cs1 : w6.cell? ⟨w5.heap.size, 1, none⟩ = some (.int .i64 (s.den : Int)) := gcell g6 (by simp [go_sem])
    have z_cs : w5.heap.size < w6.heap.size := by omega
    replace gw := grown_trans (gw.alloc _ _) g6
    clear g6 zz
    go_wp2_with fail
    refine (mul_named x y m _ fx fy Q.out.2.2.2.2.1 fm).mono ?_
    rintro e w7 ⟨rfl, g7⟩
    replace cx0 := gcell g7 (cell_old cx0 _ _)
    replace cx1 := gcell g7 (cell_old cx1 _ _)
    replace cy0 := gcell g7 (cell_old cy0 _ _)
    replace cy1 := gcell g7 (cell_old cy1 _ _)
    replace cu0 := gcell g7 (cell_old cu0 _ _)
    replace cu1 := gcell g7 (cell_old cu1 _ _)
    replace cv0 := gcell g7 (cell_old cv0 _ _)
    replace cv1 := gcell g7 (cell_old cv1 _ _)
    replace cs0 := gcell g7 (cell_old cs0 _ _)
    replace cs1 := gcell g7 (cell_old cs1 _ _)
    have zz := ge_alloc g7
    replace z_cx : w2.heap.size < w7.heap.size := by omega
    replace z_cy : w3.heap.size < w7.heap.size := by omega
    replace zu : b9 < w7.heap.size := by omega
    replace zv : b10 < w7.heap.size := by omega
    replace z_cs : w5.heap.size < w7.heap.size := by omega
    have cd0 : w7.cell? ⟨w6.heap.size, 0, none⟩ = some (.int .i64 d.num) := gcell g7 (by simp [go_sem])
    have cd1 : w7.cell? ⟨w6.heap.size, 1, none⟩ = some (.int .i64 (d.den : Int)) := gcell g7 (by simp [go_sem])
    have z_cd : w6.heap.size < w7.heap.size := by omega
    replace gw := grown_trans (gw.alloc _ _) g7
    clear g7 zz
    go_upto_region 13 with fail
    replace cx0 := cell_old cx0 #[.int .i64 m.num, .int .i64 (m.den : Int)] 37
    replace cx1 := cell_old cx1 #[.int .i64 m.num, .int .i64 (m.den : Int)] 37
    replace cy0 := cell_old cy0 #[.int .i64 m.num, .int .i64 (m.den : Int)] 37
    replace cy1 := cell_old cy1 #[.int .i64 m.num, .int .i64 (m.den : Int)] 37
    replace cu0 := cell_old cu0 #[.int .i64 m.num, .int .i64 (m.den : Int)] 37
    replace cu1 := cell_old cu1 #[.int .i64 m.num, .int .i64 (m.den : Int)] 37
    replace cv0 := cell_old cv0 #[.int .i64 m.num, .int .i64 (m.den : Int)] 37
    replace cv1 := cell_old cv1 #[.int .i64 m.num, .int .i64 (m.den : Int)] 37
    replace cs0 := cell_old cs0 #[.int .i64 m.num, .int .i64 (m.den : Int)] 37
    replace cs1 := cell_old cs1 #[.int .i64 m.num, .int .i64 (m.den : Int)] 37
    replace cd0 := cell_old cd0 #[.int .i64 m.num, .int .i64 (m.den : Int)] 37
    replace cd1 := cell_old cd1 #[.int .i64 m.num, .int .i64 (m.den : Int)] 37
    have cm0 : (w7.alloc (.cells #[.int .i64 m.num, .int .i64 (m.den : Int)] 37)).cell? ⟨w7.heap.size, 0, none⟩ = some (.int .i64 m.num) := by simp [go_sem]
    have cm1 : (w7.alloc (.cells #[.int .i64 m.num, .int .i64 (m.den : Int)] 37)).cell? ⟨w7.heap.size, 1, none⟩ = some (.int .i64 (m.den : Int)) := by simp [go_sem]
    replace gw := gw.alloc #[.int .i64 m.num, .int .i64 (m.den : Int)] 37
    generalize (w7.alloc (.cells #[.int .i64 m.num, .int .i64 (m.den : Int)] 37)) = U at *
    clear z_cx z_cy zu zv z_cs z_cd
    go_quiet ((go_at_call 24; exact Calls.quiet_of (rgcd_q _ _ _ (by omega) (by omega) (by omega) (by omega))))
    replace cx0 := cell_drewN cx0 nq
    replace cx1 := cell_drewN cx1 nq
    replace cy0 := cell_drewN cy0 nq
    replace cy1 := cell_drewN cy1 nq
    replace cu0 := cell_drewN cu0 nq
    replace cu1 := cell_drewN cu1 nq
    replace cv0 := cell_drewN cv0 nq
    replace cv1 := cell_drewN cv1 nq
    replace cs0 := cell_drewN cs0 nq
    replace cs1 := cell_drewN cs1 nq
    replace cd0 := cell_drewN cd0 nq
    replace cd1 := cell_drewN cd1 nq
    replace cm0 := cell_drewN cm0 nq
    replace cm1 := cell_drewN cm1 nq
    rw [PR.out.ex, PR.out.ey]
    replace gw := grown_drewN gw nq
    generalize U.drewN nq = U2 at *
    obtain ⟨tl, htl⟩ : ∃ t, decide (cmpQ x y < 0) = t := ⟨_, rfl⟩
    obtain ⟨tg, htg⟩ : ∃ t, decide (cmpQ y x < 0) = t := ⟨_, rfl⟩
    obtain ⟨cq, hcq⟩ : ∃ t, cmpQ x y = t := ⟨_, rfl⟩
    have tri := less_tri htl htg hcq
    have T := Lib.hid (And.intro htl (And.intro htg hcq))
    clear htl htg hcq
    go_wp2_with fail
    refine (rless_q x y tl _ fx fy T.out.1).mono ?_
    rintro e w8 ⟨rfl, g8⟩
    replace cx0 := gcell g8 (cx0)
    replace cx1 := gcell g8 (cx1)
    replace cy0 := gcell g8 (cy0)
    replace cy1 := gcell g8 (cy1)
    replace cu0 := gcell g8 (cu0)
    replace cu1 := gcell g8 (cu1)
    replace cv0 := gcell g8 (cv0)
    replace cv1 := gcell g8 (cv1)
    replace cs0 := gcell g8 (cs0)
    replace cs1 := gcell g8 (cs1)
    replace cd0 := gcell g8 (cd0)
    replace cd1 := gcell g8 (cd1)
    replace cm0 := gcell g8 (cm0)
    replace cm1 := gcell g8 (cm1)
    have zz := g8.2.2
    replace gw := grown_trans gw g8
    clear g8 zz
    go_upto_if 122 with fail
    go_cut [19] (fun s19 wx => s19 = .int .i64 (pick1 tl) ∧ w8 = wx)
    case first =>
      cases tl
      all_goals
        go_wp2
        go_meet
        exact ⟨rfl, rfl⟩
    case rest =>
      obtain ⟨rfl, rfl⟩ := hcut
      go_wp2_with fail
      refine (rless_q y x tg _ fy fx T.out.2.1).mono ?_
      rintro e w9 ⟨rfl, g9⟩
      replace cx0 := gcell g9 (cx0)
      replace cx1 := gcell g9 (cx1)
      replace cy0 := gcell g9 (cy0)
      replace cy1 := gcell g9 (cy1)
      replace cu0 := gcell g9 (cu0)
      replace cu1 := gcell g9 (cu1)
      replace cv0 := gcell g9 (cv0)
      replace cv1 := gcell g9 (cv1)
      replace cs0 := gcell g9 (cs0)
      replace cs1 := gcell g9 (cs1)
      replace cd0 := gcell g9 (cd0)
      replace cd1 := gcell g9 (cd1)
      replace cm0 := gcell g9 (cm0)
      replace cm1 := gcell g9 (cm1)
      have zz := g9.2.2
      replace gw := grown_trans gw g9
      clear g9 zz
      go_upto_if 125 with fail
      go_cut [19] (fun s19 wx => s19 = .int .i64 cq ∧ w9 = wx)
      case first =>
        rcases tri with ⟨rfl, rfl, rfl⟩ | ⟨rfl, rfl, rfl⟩ | ⟨rfl, rfl, rfl⟩
        all_goals
          go_wp2
          go_meet
          exact ⟨rfl, rfl⟩
      case rest =>
        obtain ⟨rfl, rfl⟩ := hcut
        clear tri
        have en := PR.out.en
        have em := PR.out.em
        have ee := PR.out.ee
        have ed := PR.out.ed
        have ee' : (x.den : Int).tdiv gy = e := by rw [Int.tdiv_eq_ediv_of_nonneg (by omega)]; exact ee
        have ed' : (y.den : Int).tdiv gx = r := by rw [Int.tdiv_eq_ediv_of_nonneg (by omega)]; exact ed
        have x0 := PR.out.x0
        have y0 := PR.out.y0
        have xz : ¬ gx = 0 := by omega
        have yz : ¬ gy = 0 := by omega
        obtain ⟨N, hN⟩ : ∃ N, n * k = N := ⟨_, rfl⟩
        obtain ⟨R, hR⟩ : ∃ R, e * r = R := ⟨_, rfl⟩
        have bd := prod_small PR.out xl xh xd yl yh yd px py
        rw [hN, hR] at bd
        obtain ⟨n0, n1, k0, k1, e0, e1, r0, r1, N0, N1, R0, R1⟩ := bd
        have HQ : Hid (Rat.divInt N R = m) := by
          show _ = _
          rw [← hN, ← hR, ← Q.out.2.2.2.2.1]
          exact prods_rat PR.out
        have wn : IntKind.i64.wrap n = n := IntWalk.i64_in _ ⟨by omega, by omega⟩
        have wk : IntKind.i64.wrap k = k := IntWalk.i64_in _ ⟨by omega, by omega⟩
        have we : IntKind.i64.wrap e = e := IntWalk.i64_in _ ⟨by omega, by omega⟩
        have wr : IntKind.i64.wrap r = r := IntWalk.i64_in _ ⟨by omega, by omega⟩
        have wN : IntKind.i64.wrap N = N := IntWalk.i64_in _ ⟨by omega, by omega⟩
        have wR : IntKind.i64.wrap R = R := IntWalk.i64_in _ ⟨by omega, by omega⟩
        have B1 : Hid (-4611686018427387904 ≤ N ∧ N ≤ 4611686018427387904 ∧ -4611686018427387904 ≤ R ∧ R ≤ 4611686018427387904 ∧ R ≠ 0) := ⟨by omega, by omega, by omega, by omega, by omega⟩
        have B2 : Hid (-9223372036854775807 ≤ x.num ∧ x.num ≤ 9223372036854775807 ∧ 0 < (x.den : Int) ∧ (x.den : Int) ≤ 9223372036854775807) := ⟨by omega, by omega, px, by omega⟩
        clear h0 h1 h2 h3 h4 h5 h6 h7 l0 l1 l2 l3 u0 u1 u2 u3 t1 t3 D1 D3 fs fd fm xl xh xd yl yh yd px py n0 n1 k0 k1 e0 e1 r0 r1 N0 N1 R0 R1 x0 y0 PR
        go_upto_region 19 with fail
        simp only [List.append]
        have kcx0 := gw_cell cx0
        clear cx0
        have kcx1 := gw_cell cx1
        clear cx1
        have kcy0 := gw_cell cy0
        clear cy0
        have kcy1 := gw_cell cy1
        clear cy1
        have kcu0 := gw_cell cu0
        clear cu0
        have kcu1 := gw_cell cu1
        clear cu1
        have kcv0 := gw_cell cv0
        clear cv0
        have kcv1 := gw_cell cv1
        clear cv1
        have kcs0 := gw_cell cs0
        clear cs0
        have kcs1 := gw_cell cs1
        clear cs1
        have kcd0 := gw_cell cd0
        clear cd0
        have kcd1 := gw_cell cd1
        clear cd1
        have kcm0 := gw_cell cm0
        clear cm0
        have kcm1 := gw_cell cm1
        clear cm1
        have hne : Nonempty (GW w9) := ⟨⟨w9, Grown.refl _⟩⟩
        have hself := @gw_self w9
        have hself' : ∀ p : GW w9, ∃ q : GW w9, q.W = p.W := fun p => ⟨p, rfl⟩
        refine wp_region_gw (by kernel_rfl) ((congrArg (Region.lexB .any) (by kernel_rfl : _ = ops19)).trans lex19) ?_
        repeat (go_big_quiet_step (first | (go_at_call 36; exact gw_of (rplus_named x y s _ sx sy Q.out.2.2.1)) | (go_at_call 37; exact gw_of (rminus_named x y d _ sx sy Q.out.2.2.2.1)) | (go_at_call 31; exact gw_of (rof_named N R m _ B1.out.1 B1.out.2.1 B1.out.2.2.1 B1.out.2.2.2.1 B1.out.2.2.2.2 HQ.out)) | (go_at_call 38; exact gw_of (cmp_at' x y cq _ fx fy T.out.2.2)) | (go_at_call 39; exact gw_of (floor_at' x f _ fx Q.out.2.2.2.2.2.1)) | (go_at_call 40; exact gw_of (rfloor_at x.num x.den f _ B2.out.1 B2.out.2.1 B2.out.2.2.1 B2.out.2.2.2 Q.out.2.2.2.2.2.2.2.1)) | (go_at_call 41; exact gw_of (ceil_at' x c _ fx Q.out.2.2.2.2.2.2.1)) | (go_at_call 42; exact gw_of (rceil_at x.num x.den c _ B2.out.1 B2.out.2.1 B2.out.2.2.1 B2.out.2.2.2 Q.out.2.2.2.2.2.2.2.2))))
        refine wpQuiet_nil ?_
        intro _ hw'
        obtain ⟨pp, hw''⟩ := hw'
        subst hw''
        clear en em ee ed ee' ed' hN hR wn wk we wr wN wR kcx0 kcx1 kcy0 kcy1 kcu0 kcu1 kcv0 kcv1 kcs0 kcs1 kcd0 kcd1 kcm0 kcm1
        go_wp2
        go_ret
        exact ⟨rfl, grown_trans gw pp.gr⟩

set_option maxRecDepth 100000 in
set_option maxHeartbeats 8000000 in
theorem walk (a0 : Int) (a1 : Int) (a2 : Int) (a3 : Int) (w0 : (Lit.int .i64 a0).wf = true) (w1 : (Lit.int .i64 a1).wf = true) (w2 : (Lit.int .i64 a2).wf = true) (w3 : (Lit.int .i64 a3).wf = true) (w : World) :
    Calls Try.prog 10 #[.agg #[.int .i64 a0, .int .i64 a1], .agg #[.int .i64 a2, .int .i64 a3]] w fun e w' => e = .returned (.bool true) ∧ Grown w w' := by
  obtain ⟨h0, h1⟩ := bounds_i64 w0
  obtain ⟨h2, h3⟩ := bounds_i64 w1
  obtain ⟨h4, h5⟩ := bounds_i64 w2
  obtain ⟨h6, h7⟩ := bounds_i64 w3
  clear w0 w1 w2 w3
  by_cases s0 : -536870912 ≤ a0 ∧ a0 ≤ 536870912
  case neg =>
    go_enter Try.func10, Try.ntmps10
    go_wp2_with fail
    refine (awake2_true _).mono ?_
    rintro e w1 ⟨rfl, g1⟩
    have ca0 : w1.cell? ⟨w.heap.size, 0, none⟩ = some (.int .i64 a0) := gcell g1 (by simp [go_sem])
    have ca1 : w1.cell? ⟨w.heap.size, 1, none⟩ = some (.int .i64 a1) := gcell g1 (by simp [go_sem])
    have cb0 : w1.cell? ⟨w.heap.size + 1, 0, none⟩ = some (.int .i64 a2) := gcell g1 (by simp [go_sem])
    have cb1 : w1.cell? ⟨w.heap.size + 1, 1, none⟩ = some (.int .i64 a3) := gcell g1 (by simp [go_sem])
    have gw := grown_trans (((Grown.refl w).alloc _ _).alloc _ _) g1
    have zz : w.heap.size + 2 ≤ w1.heap.size := by have := g1.2.2; simp at this; omega
    have z_ca : w.heap.size < w1.heap.size := by omega
    have z_cb : w.heap.size + 1 < w1.heap.size := by omega
    clear g1 zz
    go_wp2_with fail
    refine (small_no a0 _ (by omega)).mono ?_
    rintro e wz ⟨rfl, rfl⟩
    go_wp2
    go_ret
    exact ⟨rfl, gw⟩
  obtain ⟨l0, u0⟩ := s0
  by_cases s1 : -536870912 ≤ a1 ∧ a1 ≤ 536870912
  case neg =>
    go_enter Try.func10, Try.ntmps10
    go_wp2_with fail
    refine (awake2_true _).mono ?_
    rintro e w1 ⟨rfl, g1⟩
    have ca0 : w1.cell? ⟨w.heap.size, 0, none⟩ = some (.int .i64 a0) := gcell g1 (by simp [go_sem])
    have ca1 : w1.cell? ⟨w.heap.size, 1, none⟩ = some (.int .i64 a1) := gcell g1 (by simp [go_sem])
    have cb0 : w1.cell? ⟨w.heap.size + 1, 0, none⟩ = some (.int .i64 a2) := gcell g1 (by simp [go_sem])
    have cb1 : w1.cell? ⟨w.heap.size + 1, 1, none⟩ = some (.int .i64 a3) := gcell g1 (by simp [go_sem])
    have gw := grown_trans (((Grown.refl w).alloc _ _).alloc _ _) g1
    have zz : w.heap.size + 2 ≤ w1.heap.size := by have := g1.2.2; simp at this; omega
    have z_ca : w.heap.size < w1.heap.size := by omega
    have z_cb : w.heap.size + 1 < w1.heap.size := by omega
    clear g1 zz
    go_wp2_with fail
    refine (small_yes a0 _ (by omega) (by omega)).mono ?_
    rintro e wz ⟨rfl, rfl⟩
    go_wp2_with fail
    refine (small_no a1 _ (by omega)).mono ?_
    rintro e wz ⟨rfl, rfl⟩
    go_wp2
    go_ret
    exact ⟨rfl, gw⟩
  obtain ⟨l1, u1⟩ := s1
  by_cases s2 : -536870912 ≤ a2 ∧ a2 ≤ 536870912
  case neg =>
    go_enter Try.func10, Try.ntmps10
    go_wp2_with fail
    refine (awake2_true _).mono ?_
    rintro e w1 ⟨rfl, g1⟩
    have ca0 : w1.cell? ⟨w.heap.size, 0, none⟩ = some (.int .i64 a0) := gcell g1 (by simp [go_sem])
    have ca1 : w1.cell? ⟨w.heap.size, 1, none⟩ = some (.int .i64 a1) := gcell g1 (by simp [go_sem])
    have cb0 : w1.cell? ⟨w.heap.size + 1, 0, none⟩ = some (.int .i64 a2) := gcell g1 (by simp [go_sem])
    have cb1 : w1.cell? ⟨w.heap.size + 1, 1, none⟩ = some (.int .i64 a3) := gcell g1 (by simp [go_sem])
    have gw := grown_trans (((Grown.refl w).alloc _ _).alloc _ _) g1
    have zz : w.heap.size + 2 ≤ w1.heap.size := by have := g1.2.2; simp at this; omega
    have z_ca : w.heap.size < w1.heap.size := by omega
    have z_cb : w.heap.size + 1 < w1.heap.size := by omega
    clear g1 zz
    go_wp2_with fail
    refine (small_yes a0 _ (by omega) (by omega)).mono ?_
    rintro e wz ⟨rfl, rfl⟩
    go_wp2_with fail
    refine (small_yes a1 _ (by omega) (by omega)).mono ?_
    rintro e wz ⟨rfl, rfl⟩
    go_wp2_with fail
    refine (small_no a2 _ (by omega)).mono ?_
    rintro e wz ⟨rfl, rfl⟩
    go_wp2
    go_ret
    exact ⟨rfl, gw⟩
  obtain ⟨l2, u2⟩ := s2
  by_cases s3 : -536870912 ≤ a3 ∧ a3 ≤ 536870912
  case neg =>
    go_enter Try.func10, Try.ntmps10
    go_wp2_with fail
    refine (awake2_true _).mono ?_
    rintro e w1 ⟨rfl, g1⟩
    have ca0 : w1.cell? ⟨w.heap.size, 0, none⟩ = some (.int .i64 a0) := gcell g1 (by simp [go_sem])
    have ca1 : w1.cell? ⟨w.heap.size, 1, none⟩ = some (.int .i64 a1) := gcell g1 (by simp [go_sem])
    have cb0 : w1.cell? ⟨w.heap.size + 1, 0, none⟩ = some (.int .i64 a2) := gcell g1 (by simp [go_sem])
    have cb1 : w1.cell? ⟨w.heap.size + 1, 1, none⟩ = some (.int .i64 a3) := gcell g1 (by simp [go_sem])
    have gw := grown_trans (((Grown.refl w).alloc _ _).alloc _ _) g1
    have zz : w.heap.size + 2 ≤ w1.heap.size := by have := g1.2.2; simp at this; omega
    have z_ca : w.heap.size < w1.heap.size := by omega
    have z_cb : w.heap.size + 1 < w1.heap.size := by omega
    clear g1 zz
    go_wp2_with fail
    refine (small_yes a0 _ (by omega) (by omega)).mono ?_
    rintro e wz ⟨rfl, rfl⟩
    go_wp2_with fail
    refine (small_yes a1 _ (by omega) (by omega)).mono ?_
    rintro e wz ⟨rfl, rfl⟩
    go_wp2_with fail
    refine (small_yes a2 _ (by omega) (by omega)).mono ?_
    rintro e wz ⟨rfl, rfl⟩
    go_wp2_with fail
    refine (small_no a3 _ (by omega)).mono ?_
    rintro e wz ⟨rfl, rfl⟩
    go_wp2
    go_ret
    exact ⟨rfl, gw⟩
  obtain ⟨l3, u3⟩ := s3
  by_cases d1 : a1 = 0
  · have t1 : (a1 == 0) = true := by simp [d1]
    have D1 := Lib.hid d1
    clear d1
    by_cases d3 : a3 = 0
    · have t3 : (a3 == 0) = true := by simp [d3]
      have D3 := Lib.hid d3
      clear d3
      go_enter Try.func10, Try.ntmps10
      go_wp2_with fail
      refine (awake2_true _).mono ?_
      rintro e w1 ⟨rfl, g1⟩
      have ca0 : w1.cell? ⟨w.heap.size, 0, none⟩ = some (.int .i64 a0) := gcell g1 (by simp [go_sem])
      have ca1 : w1.cell? ⟨w.heap.size, 1, none⟩ = some (.int .i64 a1) := gcell g1 (by simp [go_sem])
      have cb0 : w1.cell? ⟨w.heap.size + 1, 0, none⟩ = some (.int .i64 a2) := gcell g1 (by simp [go_sem])
      have cb1 : w1.cell? ⟨w.heap.size + 1, 1, none⟩ = some (.int .i64 a3) := gcell g1 (by simp [go_sem])
      have gw := grown_trans (((Grown.refl w).alloc _ _).alloc _ _) g1
      have zz : w.heap.size + 2 ≤ w1.heap.size := by have := g1.2.2; simp at this; omega
      have z_ca : w.heap.size < w1.heap.size := by omega
      have z_cb : w.heap.size + 1 < w1.heap.size := by omega
      clear g1 zz
      go_wp2_with fail
      refine (small_yes a0 _ (by omega) (by omega)).mono ?_
      rintro e wz ⟨rfl, rfl⟩
      go_wp2_with fail
      refine (small_yes a1 _ (by omega) (by omega)).mono ?_
      rintro e wz ⟨rfl, rfl⟩
      go_wp2_with fail
      refine (small_yes a2 _ (by omega) (by omega)).mono ?_
      rintro e wz ⟨rfl, rfl⟩
      go_wp2_with fail
      refine (small_yes a3 _ (by omega) (by omega)).mono ?_
      rintro e wz ⟨rfl, rfl⟩
      go_wp2_with fail
      refine (of_zero_at a0 a1 _ D1.out).mono ?_
      rintro e w2 ⟨rfl, g2⟩
      replace ca0 := gcell g2 (ca0)
      replace ca1 := gcell g2 (ca1)
      replace cb0 := gcell g2 (cb0)
      replace cb1 := gcell g2 (cb1)
      have zz := g2.2.2
      replace z_ca : w.heap.size < w2.heap.size := by omega
      replace z_cb : w.heap.size + 1 < w2.heap.size := by omega
      replace gw := grown_trans gw g2
      clear g2 zz
      go_wp2_with fail
      refine (of_zero_at a2 a3 _ D3.out).mono ?_
      rintro e w3 ⟨rfl, g3⟩
      replace ca0 := gcell g3 (cell_old ca0 _ _)
      replace ca1 := gcell g3 (cell_old ca1 _ _)
      replace cb0 := gcell g3 (cell_old cb0 _ _)
      replace cb1 := gcell g3 (cell_old cb1 _ _)
      have zz := ge_alloc g3
      replace z_ca : w.heap.size < w3.heap.size := by omega
      replace z_cb : w.heap.size + 1 < w3.heap.size := by omega
      have cx0 : w3.cell? ⟨w2.heap.size, 0, none⟩ = some (.int .i64 0) := gcell g3 (by simp [go_sem])
      have cx1 : w3.cell? ⟨w2.heap.size, 1, none⟩ = some (.int .i64 0) := gcell g3 (by simp [go_sem])
      have z_cx : w2.heap.size < w3.heap.size := by omega
      replace gw := grown_trans (gw.alloc _ _) g3
      clear g3 zz
      go_wp2
      go_ret
      exact ⟨rfl, gw.alloc _ _⟩
    · have t3 : (a3 == 0) = false := by simp [d3]
      have D3 := Lib.hid d3
      clear d3
      obtain ⟨y, hy⟩ : ∃ x, Rat.divInt a2 a3 = x := ⟨_, rfl⟩
      have by' : BQ y 536870912 536870912 := by rw [← hy]; exact BQ.of D3.out (by omega) (by omega)
      have fy : FitQ y := by'.fit (by omega) (by omega)
      have HY := Lib.hid hy
      clear hy by'
      go_enter Try.func10, Try.ntmps10
      go_wp2_with fail
      refine (awake2_true _).mono ?_
      rintro e w1 ⟨rfl, g1⟩
      have ca0 : w1.cell? ⟨w.heap.size, 0, none⟩ = some (.int .i64 a0) := gcell g1 (by simp [go_sem])
      have ca1 : w1.cell? ⟨w.heap.size, 1, none⟩ = some (.int .i64 a1) := gcell g1 (by simp [go_sem])
      have cb0 : w1.cell? ⟨w.heap.size + 1, 0, none⟩ = some (.int .i64 a2) := gcell g1 (by simp [go_sem])
      have cb1 : w1.cell? ⟨w.heap.size + 1, 1, none⟩ = some (.int .i64 a3) := gcell g1 (by simp [go_sem])
      have gw := grown_trans (((Grown.refl w).alloc _ _).alloc _ _) g1
      have zz : w.heap.size + 2 ≤ w1.heap.size := by have := g1.2.2; simp at this; omega
      have z_ca : w.heap.size < w1.heap.size := by omega
      have z_cb : w.heap.size + 1 < w1.heap.size := by omega
      clear g1 zz
      go_wp2_with fail
      refine (small_yes a0 _ (by omega) (by omega)).mono ?_
      rintro e wz ⟨rfl, rfl⟩
      go_wp2_with fail
      refine (small_yes a1 _ (by omega) (by omega)).mono ?_
      rintro e wz ⟨rfl, rfl⟩
      go_wp2_with fail
      refine (small_yes a2 _ (by omega) (by omega)).mono ?_
      rintro e wz ⟨rfl, rfl⟩
      go_wp2_with fail
      refine (small_yes a3 _ (by omega) (by omega)).mono ?_
      rintro e wz ⟨rfl, rfl⟩
      go_wp2_with fail
      refine (of_zero_at a0 a1 _ D1.out).mono ?_
      rintro e w2 ⟨rfl, g2⟩
      replace ca0 := gcell g2 (ca0)
      replace ca1 := gcell g2 (ca1)
      replace cb0 := gcell g2 (cb0)
      replace cb1 := gcell g2 (cb1)
      have zz := g2.2.2
      replace z_ca : w.heap.size < w2.heap.size := by omega
      replace z_cb : w.heap.size + 1 < w2.heap.size := by omega
      replace gw := grown_trans gw g2
      clear g2 zz
      go_wp2_with fail
      refine (of_named a2 a3 y _ (by omega) (by omega) (by omega) (by omega) D3.out HY.out fy).mono ?_
      rintro e w3 ⟨rfl, g3⟩
      replace ca0 := gcell g3 (cell_old ca0 _ _)
      replace ca1 := gcell g3 (cell_old ca1 _ _)
      replace cb0 := gcell g3 (cell_old cb0 _ _)
      replace cb1 := gcell g3 (cell_old cb1 _ _)
      have zz := ge_alloc g3
      replace z_ca : w.heap.size < w3.heap.size := by omega
      replace z_cb : w.heap.size + 1 < w3.heap.size := by omega
      have cx0 : w3.cell? ⟨w2.heap.size, 0, none⟩ = some (.int .i64 0) := gcell g3 (by simp [go_sem])
      have cx1 : w3.cell? ⟨w2.heap.size, 1, none⟩ = some (.int .i64 0) := gcell g3 (by simp [go_sem])
      have z_cx : w2.heap.size < w3.heap.size := by omega
      replace gw := grown_trans (gw.alloc _ _) g3
      clear g3 zz
      go_wp2
      go_ret
      exact ⟨rfl, gw.alloc _ _⟩
  have t1 : (a1 == 0) = false := by simp [d1]
  have D1 := Lib.hid d1
  clear d1
  by_cases d3 : a3 = 0
  · have t3 : (a3 == 0) = true := by simp [d3]
    have D3 := Lib.hid d3
    clear d3
    obtain ⟨x, hx⟩ : ∃ x, Rat.divInt a0 a1 = x := ⟨_, rfl⟩
    have bx : BQ x 536870912 536870912 := by rw [← hx]; exact BQ.of D1.out (by omega) (by omega)
    have fx : FitQ x := bx.fit (by omega) (by omega)
    have HX := Lib.hid hx
    clear hx bx
    go_enter Try.func10, Try.ntmps10
    go_wp2_with fail
    refine (awake2_true _).mono ?_
    rintro e w1 ⟨rfl, g1⟩
    have ca0 : w1.cell? ⟨w.heap.size, 0, none⟩ = some (.int .i64 a0) := gcell g1 (by simp [go_sem])
    have ca1 : w1.cell? ⟨w.heap.size, 1, none⟩ = some (.int .i64 a1) := gcell g1 (by simp [go_sem])
    have cb0 : w1.cell? ⟨w.heap.size + 1, 0, none⟩ = some (.int .i64 a2) := gcell g1 (by simp [go_sem])
    have cb1 : w1.cell? ⟨w.heap.size + 1, 1, none⟩ = some (.int .i64 a3) := gcell g1 (by simp [go_sem])
    have gw := grown_trans (((Grown.refl w).alloc _ _).alloc _ _) g1
    have zz : w.heap.size + 2 ≤ w1.heap.size := by have := g1.2.2; simp at this; omega
    have z_ca : w.heap.size < w1.heap.size := by omega
    have z_cb : w.heap.size + 1 < w1.heap.size := by omega
    clear g1 zz
    go_wp2_with fail
    refine (small_yes a0 _ (by omega) (by omega)).mono ?_
    rintro e wz ⟨rfl, rfl⟩
    go_wp2_with fail
    refine (small_yes a1 _ (by omega) (by omega)).mono ?_
    rintro e wz ⟨rfl, rfl⟩
    go_wp2_with fail
    refine (small_yes a2 _ (by omega) (by omega)).mono ?_
    rintro e wz ⟨rfl, rfl⟩
    go_wp2_with fail
    refine (small_yes a3 _ (by omega) (by omega)).mono ?_
    rintro e wz ⟨rfl, rfl⟩
    go_wp2_with fail
    refine (of_named a0 a1 x _ (by omega) (by omega) (by omega) (by omega) D1.out HX.out fx).mono ?_
    rintro e w2 ⟨rfl, g2⟩
    replace ca0 := gcell g2 (ca0)
    replace ca1 := gcell g2 (ca1)
    replace cb0 := gcell g2 (cb0)
    replace cb1 := gcell g2 (cb1)
    have zz := g2.2.2
    replace z_ca : w.heap.size < w2.heap.size := by omega
    replace z_cb : w.heap.size + 1 < w2.heap.size := by omega
    replace gw := grown_trans gw g2
    clear g2 zz
    go_wp2_with fail
    refine (of_zero_at a2 a3 _ D3.out).mono ?_
    rintro e w3 ⟨rfl, g3⟩
    replace ca0 := gcell g3 (cell_old ca0 _ _)
    replace ca1 := gcell g3 (cell_old ca1 _ _)
    replace cb0 := gcell g3 (cell_old cb0 _ _)
    replace cb1 := gcell g3 (cell_old cb1 _ _)
    have zz := ge_alloc g3
    replace z_ca : w.heap.size < w3.heap.size := by omega
    replace z_cb : w.heap.size + 1 < w3.heap.size := by omega
    have cx0 : w3.cell? ⟨w2.heap.size, 0, none⟩ = some (.int .i64 x.num) := gcell g3 (by simp [go_sem])
    have cx1 : w3.cell? ⟨w2.heap.size, 1, none⟩ = some (.int .i64 (x.den : Int)) := gcell g3 (by simp [go_sem])
    have z_cx : w2.heap.size < w3.heap.size := by omega
    replace gw := grown_trans (gw.alloc _ _) g3
    clear g3 zz
    go_wp2
    go_ret
    exact ⟨rfl, gw.alloc _ _⟩
  have t3 : (a3 == 0) = false := by simp [d3]
  have D3 := Lib.hid d3
  clear d3
  exact main a0 a1 a2 a3 h0 h1 h2 h3 h4 h5 h6 h7 l0 u0 l1 u1 l2 u2 l3 u3 D1 D3 t1 t3 w

/-! ### THE ROW's STEP -/
set_option maxRecDepth 100000 in
theorem lifted (os : Os) (started : os.Started) (H : Type) (enc : TypeId × Value → H) :
    ReturnsInHanded {} Try.checked os 10 .any (Rows.ratioReckonsSpec.pre6 enc Try.prog Try.f10 Rows.ratioReckonsRow.domain false) (Rows.ratioReckonsSpec.post enc Try.prog Try.f10 false true false false) := by
  refine returnsInHanded_of_change (C := Try.checked) own started (by kernel_rfl) Try.func10
    (ChangeSpec.witness6 (enc := enc) (C := Try.checked) false ⟨#[], #[.agg #[.int .i64 0, .int .i64 0], .agg #[.int .i64 0, .int .i64 0]], []⟩ 8 (by kernel_rfl) (by kernel_rfl) (by kernel_rfl) (by kernel_rfl)) ?_
  intro W base args ds gs before hval0 hW hcnd _
  have hval : ∀ (j : Nat) t v, Try.f10.params[j]? = some t → args[j]? = some v → Value.okWide Try.prog W .any base t v := hval0
  have hW' := hW
  obtain ⟨p, q, hA0, hV, rfl, hfz, hnd⟩ := hW
  have hA : DataW.TrodAll enc Try.prog W 0 (fun _ => true) true Try.f10.params.toList args.toList ds p := hA0
  rw [Try.params10] at hA hval
  obtain ⟨v0, vs0, d0, ds0, p0, q0, hargs, rfl, rfl, h0, r0⟩ := trodAll_cons hA
  obtain ⟨v1, vs1, d1, ds1, p1, q1, rfl, rfl, rfl, h1, r1⟩ := trodAll_cons r0
  obtain ⟨rfl, rfl, rfl⟩ := trodAll_nil r1
  obtain rfl : args = #[v0, v1] := by cases args; simp_all
  obtain ⟨rfl, rfl⟩ := trodVars_none hV
  obtain ⟨a0, a1, rfl, rfl, rfl, w0, w1⟩ := open_two Try.underlying22 Try.underlying2 cells22 cells2 (hval 0 22 v0 rfl rfl) h0
  obtain ⟨a2, a3, rfl, rfl, rfl, w2, w3⟩ := open_two Try.underlying22 Try.underlying2 cells22 cells2 (hval 1 22 v1 rfl rfl) h1
  clear hA0 hval0
  simp only [List.append_nil] at hW'
  refine (walk a0 a1 a2 a3 w0 w1 w2 w3 W).mono fun e W' ⟨he, hg⟩ => ?_
  subst he
  exact ⟨_, rfl, post_of_same (pa := []) (pv := []) hW' (fun _ _ _ => (trodAll_cons_mk (shut_bool Try.underlying4 _) trodAll_mk0)) (fun sp _ => (trodAll_cons_mk (shut_two Try.underlying22 Try.underlying2 cells22 cells2 w0 w1) (trodAll_cons_mk (shut_two Try.underlying22 Try.underlying2 cells22 cells2 w2 w3) trodAll_mk0))) (fun _ _ => rfl) rfl
    (hg.frame _) hg.2.1 (ok_one (by kernel_rfl) rfl (okWide_bool_mk Try.underlying4 _))⟩

theorem over : Rows.ratioReckonsRow.holds Try.pinned (OpenSpec.ofChange Rows.ratioReckonsSpec) :=
  OpenClaim.holds_of_wide 10 Try.f10 rfl rfl rfl rfl rfl rfl rfl ⟨rfl, rfl, rfl, rfl, rfl⟩ rfl rfl rfl rfl rfl (by kernel_rfl) Try.func10 (by kernel_rfl)
    (of_decide_eq_true (by kernel_rfl)) (by unfold Func.isWrapper; first | (rw [if_pos (by decide +kernel)]; kernel_rfl) | (rw [if_neg (by decide +kernel)]; exact ⟨rfl, rfl⟩))
    (fun os started H enc _ => lifted os started H enc)

/-- THE STATEMENT -/
theorem proved : Rows.RatioReckonsSaid :=
  over
#print axioms proved
end Go.Proofs.Ytkmapegglgcfnaa.ratioReckons
