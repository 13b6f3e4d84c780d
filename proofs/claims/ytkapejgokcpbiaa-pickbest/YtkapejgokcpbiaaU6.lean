/- The law PickBest walked. -/
import Derived.Test.YtkapejgokcpbiaaU4
import Derived.Test.YtkapejgokcpbiaaX1
import Derived.Laws.StructEq
import Derived.Deep.RegionHeld3
namespace Go.Proofs.Ytkapejgokcpbiaa
open Go.RowKit Go.Lib
set_option linter.unusedVariables false
set_option maxRecDepth 100000
set_option maxHeartbeats 2000000

theorem fields32 : Try.prog.underlying 32 = some (.struct (Try.prog.fieldsOf 32)) := by kernel_rfl
theorem held32 : Try.prog.stoodInHeld 32 = false := by kernel_rfl
theorem eq32' (d : Nat) (x : Rk) (w : World) : (Op.equalIn (d + 2) 32 (V x) (V x)).run Try.prog w = .ok true w := by
  rw [run_equalIn_struct w (d + 1) 32 _ _ fields32 held32]
  simp [Program.fieldsOf, Try.underlying32, Op.eqFields, go_sem, Try.underlying3]
theorem eq32 (a b c d : Int) (w : World) : (Op.equalIn 10000 32 (.agg #[.int .i64 a, .int .i64 b, .int .i64 c, .int .i64 d]) (.agg #[.int .i64 a, .int .i64 b, .int .i64 c, .int .i64 d])).run Try.prog w = .ok true w := eq32' 9998 ⟨a, b, c, d⟩ w
theorem three {f0 f1 f2 : Bool} : f0 = false ∨ (f0 = true ∧ f1 = false) ∨ (f0 = true ∧ f1 = true ∧ f2 = false) ∨ (f0 = true ∧ f1 = true ∧ f2 = true) := by
  cases f0 <;> cases f1 <;> cases f2 <;> simp
/-- The answer of Best, kept. -/
def BP (w : World) (l : List Int) (s : Value) (W : World) : Prop := ∃ b, RowI W b s l ∧ Gr w W

theorem bestI_le (l : Nat → Tk) (N : Nat) (c : Int) (k : Nat) (ea : Bool) : (bestI l N c k ea).length ≤ N := by
  unfold bestI
  rw [List.length_map, bst_length]
  have := cnB_le (cndB l c ea) N
  omega
theorem cell_drew {W : World} {a : Addr} {v : Value} (h : W.cell? a = some v) : W.drew.cell? a = some v := h
theorem cell_drewN {W : World} {a : Addr} {v : Value} (h : W.cell? a = some v) (n : Nat) : (W.drewN n).cell? a = some v := h
theorem best_walk {w : World} {v : Value} {N : Nat} {l : Nat → Tk} (h : TsIn w v N l) (ok : ∀ i, TiOk (l i)) (n0 n1 : Int) (ea : Bool) : Calls Try.prog 3 #[v, .agg #[.int .i64 n0, .int .i64 n1], .bool ea] w fun e w' => e = .returned (.bool true) ∧ Gr w w' := by
  have AW := Lib.hid (awake_true (w.alloc (.cells #[.int .i64 n0, .int .i64 n1] 23)))
  have H := Lib.hid h
  have OK := Lib.hid ok
  obtain ⟨a, ca, rfl⟩ := h.form
  have GA : Hid (Gr w (w.alloc (.cells #[.int .i64 n0, .int .i64 n1] 23))) := (Ke.refl _ _).alloc _
  clear h ok
  go_enter Try.func3, Try.ntmps3
  go_wp2_with fail
  refine AW.out.mono ?_
  rintro e w0 ⟨rfl, g0⟩
  have c0 := gcell (a := ⟨w.heap.size, 0, none⟩) g0 (by simp [go_sem]; rfl)
  have c1 := gcell (a := ⟨w.heap.size, 1, none⟩) g0 (by simp [go_sem]; rfl)
  have G0 := Lib.hid (GA.out.trans g0)
  generalize w.heap.size = B at *
  clear g0 AW GA
  by_cases h60 : (N : Int) > 60
  · have d0 : decide ((N : Int) > 60) = true := by simp; omega
    go_wp2
    go_ret
    exact ⟨rfl, G0.out⟩
  have d0 : decide ((N : Int) > 60) = false := by simp; omega
  by_cases x0 : n0 < -1099511627776
  · have d1 : decide (n0 < -1099511627776) = true := by simp [x0]
    go_wp2
    go_ret
    exact ⟨rfl, G0.out⟩
  have d1 : decide (n0 < -1099511627776) = false := by simp; omega
  by_cases x1 : n0 > 1099511627776
  · have d2 : decide (n0 > 1099511627776) = true := by simp; omega
    go_wp2
    go_ret
    exact ⟨rfl, G0.out⟩
  have d2 : decide (n0 > 1099511627776) = false := by simp; omega
  have hN60 : N ≤ 60 := by omega
  have hc : Hid (SmC n0) := ⟨by omega, by omega⟩
  go_wp2_with fail
  clear d0 d1 d2 x0 x1 h60
  go_loopg [7] N (fun kx s7 wr => ∃ i : Nat, s7 = .int .i64 i ∧ i ≤ N ∧ N - i ≤ kx ∧ Aside (Gr w0 wr ∧ ∀ j, j < i → SmT (l j)))
  case atStart => exact ⟨0, rfl, by omega, by omega, Ke.refl _ _, fun j hj => by omega⟩
  case round =>
    obtain ⟨i, rfl, hi, hix, HI⟩ := hrel
    by_cases hil : i < N
    · have hilz : (i : Int) < (N : Int) := by omega
      obtain ⟨b, off, ca', hv, at_⟩ := (H.out.gr (G0.out.trans HI.out.1)).at_ (by omega)
      cases hv
      obtain ⟨q0, q1, q2, q3, q4, q5, q6, q7, q8, q9, q10⟩ := at_ i hil
      have OKI := OK.out i
      obtain ⟨t, ht⟩ : ∃ t, t = l i := ⟨_, rfl⟩
      have HT := Lib.hid ht
      rw [← ht] at q0 q1 q2 q3 q4 q5 q6 q7 q8 q9 q10 OKI
      have hg := OKI.g
      have CA : Hid (∀ W, SmT t → Calls Try.prog 10 #[VT t, .int .i64 n0, .bool ea] W fun e w' => e = .returned (.bool (canB t n0 ea)) ∧ Gr W w') := fun W s => can_any t n0 ea W s hc.out
      have CB : Hid (∀ W, SmT t → Calls Try.prog 11 #[VT t, .int .i64 n0, .bool ea] W fun e w' => e = .returned (.bool (canB t n0 ea)) ∧ Gr W w') := fun W s => rcan_any t n0 ea W s hc.out
      have MD := Lib.hid (fun W => made12 t W)
      have k0 := gcell HI.out.1 c0
      have k1 := gcell HI.out.1 c1
      clear at_ ht OKI
      by_cases x0 : t.r < -1099511627776
      · have d0 : decide (t.r < -1099511627776) = true := by simp [x0]
        obtain ⟨tid, te, tp, tsp, tle, twa, tac, tr, tg, tdn, tct⟩ := t
        simp only at *
        clear CA CB MD x0
        go_wp2
        go_ret
        exact ⟨rfl, G0.out.trans HI.out.1⟩
      have d0 : decide (t.r < -1099511627776) = false := by simp; omega
      by_cases x1 : t.r > 1099511627776
      · have d1 : decide (t.r > 1099511627776) = true := by simp; omega
        obtain ⟨tid, te, tp, tsp, tle, twa, tac, tr, tg, tdn, tct⟩ := t
        simp only at *
        clear CA CB MD x0 x1
        go_wp2
        go_ret
        exact ⟨rfl, G0.out.trans HI.out.1⟩
      have d1 : decide (t.r > 1099511627776) = false := by simp; omega
      by_cases x2 : t.g > 1099511627776
      · have d2 : decide (t.g > 1099511627776) = true := by simp; omega
        obtain ⟨tid, te, tp, tsp, tle, twa, tac, tr, tg, tdn, tct⟩ := t
        simp only at *
        clear CA CB MD x0 x1 x2
        go_wp2
        go_ret
        exact ⟨rfl, G0.out.trans HI.out.1⟩
      have d2 : decide (t.g > 1099511627776) = false := by simp; omega
      have sm : SmT t := ⟨⟨by omega, by omega⟩, by omega, by omega⟩
      have HI2 : Hid (∀ j, j < i + 1 → SmT (l j)) := fun j hj => by
        by_cases q : j = i
        · subst q; rw [← HT.out]; exact sm
        · exact HI.out.2 j (by omega)
      have C1 := Lib.hid (fun W => CA.out W sm)
      have C2 := Lib.hid (fun W => CB.out W sm)
      have RK := Lib.hid (fun W => rank_any t W sm.g)
      have RR := Lib.hid (fun W => rrank_any t W sm.g)
      have MR := Lib.hid (fun W => made_any (rkT t) W)
      obtain ⟨bb, hbb⟩ : ∃ bb, canB t n0 ea = bb := ⟨_, rfl⟩
      rw [hbb] at C1 C2
      have dbb : (bb != bb) = false := by simp
      generalize rkT t = rk at *
      clear CA CB sm x0 x1 x2 hbb
      obtain ⟨tid, te, tp, tsp, tle, twa, tac, tr, tg, tdn, tct⟩ := t
      obtain ⟨rd, rb, rg, ri⟩ := rk
      simp only at *
      go_wp2_with fail
      refine (MD.out _).mono ?_
      rintro e w1 ⟨rfl, g1⟩
      obtain ⟨w2, hw2⟩ : ∃ w2, w2 = w1.alloc (.cells #[.int .i64 tid, .int .i64 te, .int .i64 tp, .bool tsp, .bool tle, .bool twa, .bool tac, .int .i64 tr, .int .i64 tg, .bool tdn, .int .i64 tct] 27) := ⟨_, rfl⟩
      have g2 : Gr wr w2 := by rw [hw2]; exact g1.alloc _
      have b0 : w2.cell? ⟨w1.heap.size, 0, none⟩ = some (.int .i64 tid) := by rw [hw2]; simp [go_sem]
      have b1 : w2.cell? ⟨w1.heap.size, 1, none⟩ = some (.int .i64 te) := by rw [hw2]; simp [go_sem]
      have b2 : w2.cell? ⟨w1.heap.size, 2, none⟩ = some (.int .i64 tp) := by rw [hw2]; simp [go_sem]
      have b3 : w2.cell? ⟨w1.heap.size, 3, none⟩ = some (.bool tsp) := by rw [hw2]; simp [go_sem]
      have b4 : w2.cell? ⟨w1.heap.size, 4, none⟩ = some (.bool tle) := by rw [hw2]; simp [go_sem]
      have b5 : w2.cell? ⟨w1.heap.size, 5, none⟩ = some (.bool twa) := by rw [hw2]; simp [go_sem]
      have b6 : w2.cell? ⟨w1.heap.size, 6, none⟩ = some (.bool tac) := by rw [hw2]; simp [go_sem]
      have b7 : w2.cell? ⟨w1.heap.size, 7, none⟩ = some (.int .i64 tr) := by rw [hw2]; simp [go_sem]
      have b8 : w2.cell? ⟨w1.heap.size, 8, none⟩ = some (.int .i64 tg) := by rw [hw2]; simp [go_sem]
      have b9 : w2.cell? ⟨w1.heap.size, 9, none⟩ = some (.bool tdn) := by rw [hw2]; simp [go_sem]
      have b10 : w2.cell? ⟨w1.heap.size, 10, none⟩ = some (.int .i64 tct) := by rw [hw2]; simp [go_sem]
      replace q0 := gcell g2 q0
      replace q1 := gcell g2 q1
      replace q2 := gcell g2 q2
      replace q3 := gcell g2 q3
      replace q4 := gcell g2 q4
      replace q5 := gcell g2 q5
      replace q6 := gcell g2 q6
      replace q7 := gcell g2 q7
      replace q8 := gcell g2 q8
      replace q9 := gcell g2 q9
      replace q10 := gcell g2 q10
      replace k0 := gcell g2 k0
      replace k1 := gcell g2 k1
      have G2 := Lib.hid (HI.out.1.trans g2)
      have HW2 := Lib.hid hw2.symm
      clear hw2 g2
      go_upto_region 11 with fail
      rw [HW2.out]
      clear HW2
      generalize w1.heap.size = B8 at *
      clear g1
      have y0 := gw_cell q0
      have y1 := gw_cell q1
      have y2 := gw_cell q2
      have y3 := gw_cell q3
      have y4 := gw_cell q4
      have y5 := gw_cell q5
      have y6 := gw_cell q6
      have y7 := gw_cell q7
      have y8 := gw_cell q8
      have y9 := gw_cell q9
      have y10 := gw_cell q10
      have z0 := gw_cell b0
      have z1 := gw_cell b1
      have z2 := gw_cell b2
      have z3 := gw_cell b3
      have z4 := gw_cell b4
      have z5 := gw_cell b5
      have z6 := gw_cell b6
      have z7 := gw_cell b7
      have z8 := gw_cell b8
      have z9 := gw_cell b9
      have z10 := gw_cell b10
      have u0 := gw_cell k0
      have hne : Nonempty (GW w2) := ⟨⟨w2, Ke.refl _ _⟩⟩
      have hself := @gw_self w2
      have hself' : ∀ p : GW w2, ∃ q : GW w2, q.W = p.W := fun p => ⟨p, rfl⟩
      refine wp_region_gw (by first | assumption | kernel_rfl) (by kernel_rfl) ?_
      repeat (go_big_quiet_step (first | (go_at_call 10; with_reducible exact gw_of (C1.out _)) | (go_at_call 11; with_reducible exact gw_of (C2.out _))))
      refine wpQuiet_nil ?_
      intro _ hw'
      obtain ⟨pp, hw''⟩ := hw'
      subst hw''
      have G3 := Lib.hid (G2.out.trans pp.gr)
      replace q0 := y0 pp
      replace b0 := z0 pp
      replace q1 := y1 pp
      replace b1 := z1 pp
      replace q2 := y2 pp
      replace b2 := z2 pp
      replace q3 := y3 pp
      replace b3 := z3 pp
      replace q4 := y4 pp
      replace b4 := z4 pp
      replace q5 := y5 pp
      replace b5 := z5 pp
      replace q6 := y6 pp
      replace b6 := z6 pp
      replace q7 := y7 pp
      replace b7 := z7 pp
      replace q8 := y8 pp
      replace b8 := z8 pp
      replace q9 := y9 pp
      replace b9 := z9 pp
      replace q10 := y10 pp
      replace b10 := z10 pp
      clear y0 z0 y1 z1 y2 z2 y3 z3 y4 z4 y5 z5 y6 z6 y7 z7 y8 z8 y9 z9 y10 z10 u0 k0 k1 hne hself hself' C1 C2 G2
      generalize pp.W = w7 at *
      clear pp
      obtain ⟨f1, hf1⟩ : ∃ f1, decide (tg ≥ 0) = f1 := ⟨_, rfl⟩
      obtain ⟨f2, hf2⟩ : ∃ f2, decide (tg < te) = f2 := ⟨_, rfl⟩
      have y0 := gw_cell q0
      have y1 := gw_cell q1
      have y2 := gw_cell q2
      have y3 := gw_cell q3
      have y4 := gw_cell q4
      have y5 := gw_cell q5
      have y6 := gw_cell q6
      have y7 := gw_cell q7
      have y8 := gw_cell q8
      have y9 := gw_cell q9
      have y10 := gw_cell q10
      have z0 := gw_cell b0
      have z1 := gw_cell b1
      have z2 := gw_cell b2
      have z3 := gw_cell b3
      have z4 := gw_cell b4
      have z5 := gw_cell b5
      have z6 := gw_cell b6
      have z7 := gw_cell b7
      have z8 := gw_cell b8
      have z9 := gw_cell b9
      have z10 := gw_cell b10
      have hne : Nonempty (GW w7) := ⟨⟨w7, Ke.refl _ _⟩⟩
      have hself := @gw_self w7
      have hself' : ∀ p : GW w7, ∃ q : GW w7, q.W = p.W := fun p => ⟨p, rfl⟩
      have heq := eq32 rd rb rg ri
      clear q0 b0 q1 b1 q2 b2 q3 b3 q4 b4 q5 b5 q6 b6 q7 b7 q8 b8 q9 b9 q10 b10
      rcases (three : tac = false ∨ (tac = true ∧ f1 = false) ∨ (tac = true ∧ f1 = true ∧ f2 = false) ∨ (tac = true ∧ f1 = true ∧ f2 = true)) with rfl | ⟨rfl, rfl⟩ | ⟨rfl, rfl, rfl⟩ | ⟨rfl, rfl, rfl⟩
      all_goals
        go_upto_region 13 with fail
        refine wp_region_gw_tail 35 (by first | assumption | kernel_rfl) (by kernel_rfl) ?_
        simp only [List.take_succ_cons, List.take_zero, List.drop_succ_cons, List.drop_zero]
        repeat (go_big_quiet_step (first | (go_at_call 12; with_reducible exact gw_of (RK.out _)) | (go_at_call 14; with_reducible exact gw_of (RR.out _)) | (go_at_call 13; with_reducible exact gw_of (MR.out _))))
        refine wpQuiet_nil ?_
        intro _ hw'
        obtain ⟨pp, hw''⟩ := hw'
        subst hw''
        have G4 := Lib.hid (G3.out.trans pp.gr)
        clear y0 z0 y1 z1 y2 z2 y3 z3 y4 z4 y5 z5 y6 z6 y7 z7 y8 z8 y9 z9 y10 z10 hne hself hself' RK RR MR G3
        generalize pp.W = w8 at *
        clear pp
        go_wp2_with fail
        go_roundg (N - (i + 1))
        case measure => omega
        case rel => exact ⟨i + 1, by go_num, by omega, Nat.le_refl _, G4.out, HI2.out⟩
    · have hilz : ¬ (i : Int) < (N : Int) := by omega
      obtain rfl : N = i := by omega
      have T := H.out.gr (G0.out.trans HI.out.1)
      have RW : Hid (∀ W, Gr wr W → Calls Try.prog 16 #[.slice a N ca] W fun e w' => RowsP W N l e w') := fun W g => rows_any (T.gr g) (by omega)
      have BS : Hid (∀ b0 u W, Row W b0 27 11 u N (tc l) → Calls Try.prog 15 #[u, .int .i64 n0, .int .i64 n1, .bool ea] W fun e w' => IdsP W (bestI l N n0 n1.toNat ea) e w') := fun b0 u W r => best_any r (by omega) HI.out.2 (fun j hj => (OK.out j).hi) n0 hc.out n1 ea
      have RB : Hid (∀ W, Gr wr W → Calls Try.prog 17 #[.slice a N ca, .int .i64 n0, .int .i64 n1, .bool ea] W fun e w' => IdsP W (bestI l N n0 n1.toNat ea) e w') := fun W g => rbest_any (T.gr g) (by omega) HI.out.2 n0 hc.out n1 ea
      have k0 := gcell HI.out.1 c0
      have k1 := gcell HI.out.1 c1
      have G1 := Lib.hid (G0.out.trans HI.out.1)
      clear T c0 c1 HI
      have hlen : (bestI l N n0 n1.toNat ea).length ≤ N := bestI_le l N n0 n1.toNat ea
      generalize bestI l N n0 n1.toNat ea = ids at *
      go_upto_region 15 with fail
      go_cut [9] (fun s9 wx => BP wr ids s9 wx)
      case first =>
        go_region_held3 (fun w' => w'.cell? ⟨B, 0, none⟩ = some (.int .i64 n0) ∧ w'.cell? ⟨B, 1, none⟩ = some (.int .i64 n1))
          (refine ⟨?_, ?_⟩ <;> (repeat (first | assumption | (with_reducible refine cell_drew ?_) | (with_reducible refine cell_drewN ?_ _))))
          (first
            | (go_at_call 16; (with_reducible refine (RW.out _ (by repeat (first | exact Ke.refl _ _ | with_reducible apply Ke.drew))).mono ?_); rintro x wA ⟨u, rfl, rowA, gA⟩; have y0 : wA.cell? ⟨B, 0, none⟩ = some (.int .i64 n0) := gcell gA (by repeat (first | assumption | (with_reducible refine cell_drew ?_))); have y1 : wA.cell? ⟨B, 1, none⟩ = some (.int .i64 n1) := gcell gA (by repeat (first | assumption | (with_reducible refine cell_drew ?_))))
            | (go_at_call 15; (with_reducible refine (BS.out _ _ _ (row_gr rowA (by repeat (first | exact Ke.refl _ _ | with_reducible apply Ke.drew)))).mono ?_); rintro x wB ⟨u2, rfl, rowB, gB⟩; have y2 : wB.cell? ⟨B, 0, none⟩ = some (.int .i64 n0) := gcell gB (by repeat (first | assumption | (with_reducible refine cell_drew ?_))); have y3 : wB.cell? ⟨B, 1, none⟩ = some (.int .i64 n1) := gcell gB (by repeat (first | assumption | (with_reducible refine cell_drew ?_)))))
        all_goals (go_wp2_with fail)
        all_goals go_meet
        all_goals exact ⟨_, rowB, ((Ke.refl _ _).drew.trans gA).trans gB⟩
      case rest =>
        clear RW BS
        obtain ⟨bx, rowx, gx⟩ := hcut
        have k2 := gcell gx k0
        have k3 := gcell gx k1
        have C := Lib.hid (RB.out _ gx)
        obtain ⟨xa, xc, rfl⟩ := rowI_form rowx
        have RX := Lib.hid rowx
        clear rowx k0 k1
        go_wp2_with fail
        refine C.out.mono ?_
        rintro x wy ⟨u, rfl, rowy, gy⟩
        have G3 := Lib.hid ((G1.out.trans gx).trans gy)
        have RX2 := Lib.hid (rowI_gr RX.out gy)
        obtain ⟨ya, yc, rfl⟩ := rowI_form rowy
        have RY := Lib.hid rowy
        obtain ⟨n, hn⟩ : ∃ n, n = ids.length := ⟨_, rfl⟩
        rw [← hn]
        have HN := Lib.hid hn
        rw [← hn] at hlen
        have hn60 : (n : Int) ≤ 60 := by omega
        clear rowy gy gx RX C RB k2 k3 hn
        go_wp2_with fail
        go_loopg [11] n (fun kx s11 wz => ∃ k : Nat, s11 = .int .i64 k ∧ k ≤ n ∧ n - k ≤ kx ∧ Aside (Gr wy wz))
        case atStart => exact ⟨0, rfl, by omega, by omega, Ke.refl _ _⟩
        case round =>
          obtain ⟨k, rfl, hk, hkx, GZ⟩ := hrel
          by_cases hlt : k < n
          · have hltz : (k : Int) < (n : Int) := by omega
            have rx := rowI_gr RX2.out GZ.out
            have ry := rowI_gr RY.out GZ.out
            obtain ⟨g1, cap1, hv1, _⟩ := Row.form rx (by rw [← HN.out]; omega)
            obtain ⟨g2, cap2, hv2, _⟩ := Row.form ry (by rw [← HN.out]; omega)
            cases hv1
            cases hv2
            have e1 := gw_cell (rowI_cell rx rfl k (by rw [← HN.out]; exact hlt))
            have e2 := gw_cell (rowI_cell ry rfl k (by rw [← HN.out]; exact hlt))
            generalize ids.getD k 0 = z at e1 e2
            have dz : (z != z) = false := by simp
            clear rx ry
            go_upto_region 22 with fail
            have hne : Nonempty (GW wr) := ⟨⟨wr, Ke.refl _ _⟩⟩
            have hself := @gw_self wr
            have hself' : ∀ p : GW wr, ∃ q : GW wr, q.W = p.W := fun p => ⟨p, rfl⟩
            refine wp_region_gw (by first | assumption | kernel_rfl) (by kernel_rfl) ?_
            repeat (go_big_quiet_step (fail))
            refine wpQuiet_nil ?_
            intro _ hw'
            obtain ⟨pp, hw''⟩ := hw'
            subst hw''
            have G4 := Lib.hid (GZ.out.trans pp.gr)
            clear e1 e2 hne hself hself'
            generalize pp.W = w9 at *
            clear pp
            go_wp2_with fail
            go_roundg (n - (k + 1))
            case measure => omega
            case rel => exact ⟨k + 1, by go_num, by omega, Nat.le_refl _, G4.out⟩
          · have hltz : ¬ (k : Int) < (n : Int) := by omega
            go_wp2
            go_ret
            exact ⟨rfl, G3.out.trans GZ.out⟩
end Go.Proofs.Ytkapejgokcpbiaa
