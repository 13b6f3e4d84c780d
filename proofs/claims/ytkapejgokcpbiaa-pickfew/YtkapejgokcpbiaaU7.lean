/- The law PickFew walked. -/
import Derived.Test.YtkapejgokcpbiaaU4
import Derived.Test.YtkapejgokcpbiaaX1
namespace Go.Proofs.Ytkapejgokcpbiaa
open Go.RowKit Go.Lib
set_option linter.unusedVariables false
set_option maxRecDepth 100000
set_option maxHeartbeats 2000000

/-! ### plain -/
theorem few_all {l : Nat → Tk} {N : Nat} {c : Int} {ea : Bool} (hd : ∀ i, i < N → twB l i = false) (hN : N ≤ 40) : (bestI l N c 100 ea).length = cnB (fun j => canB (l j) c ea) N := by
  unfold bestI
  rw [List.length_map, bst_length, cnB_congr (R := fun j => canB (l j) c ea) (R' := cndB l c ea) (fun j hj => by unfold cndB; rw [hd j hj]; simp)]
  have := cnB_le (fun j => canB (l j) c ea) N
  omega
theorem few_some {l : Nat → Tk} {N : Nat} {c : Int} {ea : Bool} {k : Nat} (hk : k ≤ 100) : bestI l N c k ea = (bestI l N c 100 ea).take k := by
  unfold bestI
  rw [bst_take k 100 _ hk, List.map_take]
theorem few_len {l : Nat → Tk} {N : Nat} {c : Int} {ea : Bool} {k : Nat} (hd : ∀ i, i < N → twB l i = false) (hN : N ≤ 40) (hk : k ≤ 100) : (bestI l N c k ea).length = min (cnB (fun j => canB (l j) c ea) N) k := by
  rw [few_some hk, List.length_take, few_all hd hN, Nat.min_comm]
theorem few_at {l : Nat → Tk} {N : Nat} {c : Int} {ea : Bool} {k j : Nat} (hk : k ≤ 100) (hj : j < (bestI l N c k ea).length) : (bestI l N c 100 ea).getD j 0 = (bestI l N c k ea).getD j 0 := by
  rw [few_some hk] at hj ⊢
  rw [List.length_take] at hj
  rw [List.getD_eq_getElem?_getD, List.getD_eq_getElem?_getD, List.getElem?_take_of_lt (by omega)]

theorem few_walk {w : World} {v : Value} {N : Nat} {l : Nat → Tk} (h : TsIn w v N l) (ok : ∀ i, TiOk (l i)) (m n0 n1 : Nat) (hm : m < 256) (hn0 : n0 < 256) (hn1 : n1 < 256) : Calls Try.prog 4 #[v, .int .u8 m, .agg #[.int .u8 n0, .int .u8 n1]] w fun e w' => e = .returned (.bool true) ∧ Gr w w' := by
  have AW := Lib.hid (awake_true (w.alloc (.cells #[.int .u8 n0, .int .u8 n1] 43)))
  have H := Lib.hid h
  have OK := Lib.hid ok
  obtain ⟨a, ca, rfl⟩ := h.form
  have GA : Hid (Gr w (w.alloc (.cells #[.int .u8 n0, .int .u8 n1] 43))) := (Ke.refl _ _).alloc _
  clear h ok
  go_enter Try.func4, Try.ntmps4
  go_wp2_with fail
  refine AW.out.mono ?_
  rintro e w0 ⟨rfl, g0⟩
  have c0 := gcell (a := ⟨w.heap.size, 0, none⟩) g0 (by simp [go_sem]; rfl)
  have c1 := gcell (a := ⟨w.heap.size, 1, none⟩) g0 (by simp [go_sem]; rfl)
  have G0 := Lib.hid (GA.out.trans g0)
  generalize w.heap.size = B at *
  clear g0 AW GA
  by_cases h40 : (N : Int) > 40
  · go_wp2
    go_ret
    exact ⟨rfl, G0.out⟩
  have hN40 : N ≤ 40 := by omega
  go_wp2_with fail
  go_loopg [7] N (fun kx s7 wr => ∃ i : Nat, s7 = .int .i64 i ∧ i ≤ N ∧ N - i ≤ kx ∧ Aside (Gr w0 wr ∧ (∀ j, j < i → SmT (l j)) ∧ ∀ j, j < i → twB l j = false))
  case atStart => exact ⟨0, rfl, by omega, by omega, Ke.refl _ _, fun j hj => by omega, fun j hj => by omega⟩
  case round =>
    obtain ⟨i, rfl, hi, hix, HI⟩ := hrel
    by_cases hil : i < N
    · have hilz : (i : Int) < (N : Int) := by omega
      obtain ⟨b, off, ca', hv, at_⟩ := (H.out.gr (G0.out.trans HI.out.1)).at_ (by omega)
      cases hv
      have AT := Lib.hid at_
      have q7 := (at_ i hil).c7
      have q8 := (at_ i hil).c8
      have OKI := OK.out i
      obtain ⟨tr, htr⟩ : ∃ tr, tr = (l i).r := ⟨_, rfl⟩
      obtain ⟨tg, htg⟩ : ∃ tg, tg = (l i).g := ⟨_, rfl⟩
      have hg := OKI.g
      have HR := Lib.hid htr
      have HG := Lib.hid htg
      rw [← htr] at q7
      rw [← htg] at q8 hg
      clear at_ htr htg OKI
      by_cases x0 : tr < -1099511627776
      · have d0 : decide (tr < -1099511627776) = true := by simp [x0]
        clear x0
        go_wp2
        go_ret
        exact ⟨rfl, G0.out.trans HI.out.1⟩
      have d0 : decide (tr < -1099511627776) = false := by simp; omega
      by_cases x1 : tr > 1099511627776
      · have d1 : decide (tr > 1099511627776) = true := by simp; omega
        clear x0 x1
        go_wp2
        go_ret
        exact ⟨rfl, G0.out.trans HI.out.1⟩
      have d1 : decide (tr > 1099511627776) = false := by simp; omega
      by_cases x2 : tg > 1099511627776
      · have d2 : decide (tg > 1099511627776) = true := by simp; omega
        clear x0 x1 x2
        go_wp2
        go_ret
        exact ⟨rfl, G0.out.trans HI.out.1⟩
      have d2 : decide (tg > 1099511627776) = false := by simp; omega
      have sm : SmT (l i) := ⟨⟨by rw [← HG.out]; omega, by rw [← HG.out]; omega⟩, by rw [← HR.out]; omega, by rw [← HR.out]; omega⟩
      have HI2 : Hid (∀ j, j < i + 1 → SmT (l j)) := fun j hj => by
        by_cases q : j = i
        · subst q; exact sm
        · exact HI.out.2.1 j (by omega)
      go_wp2_with fail
      clear d0 d1 d2 x0 x1 x2 sm q7 q8 HR HG
      go_loopg [8] i (fun kx2 s8 wr2 => ∃ k : Nat, s8 = .int .i64 k ∧ k ≤ i ∧ i - k ≤ kx2 ∧ Aside (Gr w0 wr2 ∧ ∀ j, j < k → (l j).id ≠ (l i).id))
      case atStart => exact ⟨0, rfl, by omega, by omega, HI.out.1, fun j hj => by omega⟩
      case round =>
        obtain ⟨k, rfl, hk, hkx, HK⟩ := hrel
        by_cases hki : k < i
        · have hkiz : (k : Int) < (i : Int) := by omega
          have hkN : (k : Int) < (N : Int) := by omega
          obtain ⟨b, off, ca', hv, at_⟩ := (H.out.gr (G0.out.trans HK.out.1)).at_ (by omega)
          cases hv
          have kq := gw_cell (at_ k (by omega)).c0
          have iq := gw_cell (at_ i hil).c0
          obtain ⟨x, hx⟩ : ∃ x, (l k).id = x := ⟨_, rfl⟩
          obtain ⟨y, hy⟩ : ∃ y, (l i).id = y := ⟨_, rfl⟩
          rw [hx] at kq
          rw [hy] at iq
          obtain ⟨d, hd⟩ : ∃ d, (y == x) = d := ⟨_, rfl⟩
          have HX := Lib.hid hx
          have HY := Lib.hid hy
          have HD := Lib.hid hd
          clear at_ hx hy
          go_upto_region 13 with fail
          have hne : Nonempty (GW wr) := ⟨⟨wr, Ke.refl _ _⟩⟩
          have hself := @gw_self wr
          have hself' : ∀ p : GW wr, ∃ q : GW wr, q.W = p.W := fun p => ⟨p, rfl⟩
          refine wp_region_gw (by first | assumption | kernel_rfl) (by kernel_rfl) ?_
          repeat (go_big_quiet_step (fail))
          refine wpQuiet_nil ?_
          intro _ hw'
          obtain ⟨pp, hw''⟩ := hw'
          subst hw''
          have G2 := Lib.hid (HK.out.1.trans pp.gr)
          clear kq iq hne hself hself'
          generalize pp.W = w2 at *
          clear pp
          cases d
          · go_wp2_with fail
            go_roundg (i - (k + 1))
            case measure => omega
            case rel => exact ⟨k + 1, by go_num, by omega, Nat.le_refl _, G2.out, fun j hj => by
              by_cases q : j = k
              · subst q; rw [HX.out, HY.out]; have := HD.out; simp at this; exact fun z => this z.symm
              · exact HK.out.2 j (by omega)⟩
          · go_wp2
            go_ret
            exact ⟨rfl, G0.out.trans G2.out⟩
        · have hkiz : ¬ (k : Int) < (i : Int) := by omega
          obtain rfl : i = k := by omega
          have TW : Hid (∀ j, j < i + 1 → twB l j = false) := fun j hj => by
            by_cases q : j = i
            · subst q
              cases z : twB l j
              · rfl
              · obtain ⟨j', h1, h2⟩ := twB_iff.1 z
                exact absurd h2 (HK.out.2 j' h1)
            · exact HI.out.2.2 j (by omega)
          go_wp2_with fail
          go_roundg (N - (i + 1))
          case measure => omega
          case rel => exact ⟨i + 1, by go_num, by omega, Nat.le_refl _, HK.out.1, HI2.out, TW.out⟩
    · have hilz : ¬ (i : Int) < (N : Int) := by omega
      obtain rfl : N = i := by omega
      have k0 := gcell HI.out.1 c0
      have k1 := gcell HI.out.1 c1
      have G1 := Lib.hid (G0.out.trans HI.out.1)
      have SM := Lib.hid HI.out.2.1
      have TW := Lib.hid HI.out.2.2
      clear c0 c1 HI
      have hm0 : (0 : Int) ≤ m := by omega
      have hm1 : (m : Int) ≤ 255 := by omega
      have y1 := gw_cell k1
      go_upto_region 15 with fail
      have hne : Nonempty (GW wr) := ⟨⟨wr, Ke.refl _ _⟩⟩
      have hself := @gw_self wr
      have hself' : ∀ p : GW wr, ∃ q : GW wr, q.W = p.W := fun p => ⟨p, rfl⟩
      refine wp_region_gw (by first | assumption | kernel_rfl) (by kernel_rfl) ?_
      repeat (go_big_quiet_step (fail))
      refine wpQuiet_nil ?_
      intro _ hw'
      obtain ⟨pp, hw''⟩ := hw'
      subst hw''
      have G2 := Lib.hid (G1.out.trans pp.gr)
      replace k0 := gcell pp.gr k0
      clear y1 k1 hne hself hself' G1
      generalize pp.W = w2 at *
      clear pp
      generalize (bits BinOp.and IntKind.u8 (n1 : Int) 1 == 1) = ea
      have T := H.out.gr G2.out
      have hmc : SmC m := ⟨by omega, by omega⟩
      have HMC := Lib.hid hmc
      have RW := Lib.hid (rows_any T (by omega))
      clear T hmc
      go_wp2_with fail
      refine RW.out.mono ?_
      rintro x w3 ⟨u, rfl, row3, g3⟩
      have C3 := Lib.hid (best_any row3 (by omega) SM.out (fun j hj => (OK.out j).hi) m HMC.out 100 ea)
      replace k0 := gcell g3 k0
      have G3 := Lib.hid (G2.out.trans g3)
      have R3 := Lib.hid row3
      clear row3 g3 RW G2
      go_wp2_with fail
      refine C3.out.mono ?_
      rintro x w4 ⟨ua, rfl, rowa, g4⟩
      replace k0 := gcell g4 k0
      have G4 := Lib.hid (G3.out.trans g4)
      obtain ⟨kk, hkk⟩ : ∃ kk : Nat, kk = n0 % 6 := ⟨_, rfl⟩
      have e1 : (n0 : Int) % 6 = kk := by omega
      have e2 : Int.tmod (n0 : Int) 6 = kk := by rw [Int.tmod_eq_emod_of_nonneg (by omega)]; exact e1
      have hk6 : kk < 6 := by omega
      have hn00 : (0 : Int) ≤ n0 := by omega
      have hn01 : (n0 : Int) ≤ 255 := by omega
      have C4 := Lib.hid (best_any (row_gr R3.out g4) (by omega) SM.out (fun j hj => (OK.out j).hi) m HMC.out kk ea)
      obtain ⟨xa, xc, rfl⟩ := rowI_form rowa
      have RA := Lib.hid rowa
      clear rowa g4 C3 G3 hkk
      go_wp2_with fail
      refine C4.out.mono ?_
      rintro x w5 ⟨ub, rfl, rowb, g5⟩
      replace k0 := gcell g5 k0
      have G5 := Lib.hid (G4.out.trans g5)
      obtain ⟨ya, yc, rfl⟩ := rowI_form rowb
      have RB := Lib.hid rowb
      have RA5 := Lib.hid (rowI_gr RA.out g5)
      have la := few_all (c := m) (ea := ea) TW.out hN40
      have lb := few_len (c := m) (ea := ea) (k := kk) TW.out hN40 (by omega)
      have hat := Lib.hid (fun j hj => few_at (l := l) (N := N) (c := m) (ea := ea) (k := kk) (j := j) (by omega) hj)
      have RB2 : Hid (RowI w5 w4.heap.size (.slice ya (bestI l N m kk ea).length yc) (bestI l N m kk ea)) := RB
      have RA2 : Hid (RowI w5 w3.heap.size (.slice xa (bestI l N m 100 ea).length xc) (bestI l N m 100 ea)) := RA5
      clear RB RA5
      have hcl := cnB_le (fun j => canB (l j) m ea) N
      simp only [Int.toNat_natCast] at *
      rw [la, lb]
      obtain ⟨cn, hcn⟩ : ∃ cn, cn = cnB (fun j => canB (l j) m ea) N := ⟨_, rfl⟩
      rw [← hcn] at la lb hcl ⊢
      have HCN := Lib.hid hcn
      obtain ⟨mn, hmn⟩ : ∃ mn, mn = min cn kk := ⟨_, rfl⟩
      have emn : min (cn : Int) (kk : Int) = (mn : Int) := by omega
      rw [← hmn] at lb ⊢
      have hmk : (mn : Int) ≤ 5 := by omega
      have dcn : ((cn : Int) != (cn : Int)) = false := by simp
      have dmn : ((mn : Int) != (mn : Int)) = false := by simp
      have LA := Lib.hid la
      have LB := Lib.hid lb
      clear rowb g5 C4 G4 RA la lb hcn hmn
      go_wp2_with fail
      go_loopg [14, 15] N (fun kx s14 s15 wz => ∃ i : Nat, s15 = .int .i64 i ∧ s14 = .int .i64 (cnB (fun j => canB (l j) m ea) i : Nat) ∧ i ≤ N ∧ N - i ≤ kx ∧ Aside (Gr w5 wz))
      case atStart => exact ⟨0, rfl, rfl, by omega, by omega, Ke.refl _ _⟩
      case round =>
        obtain ⟨i, rfl, rfl, hi2, hix2, GZ⟩ := hrel
        by_cases hil : i < N
        · have hilz : (i : Int) < (N : Int) := by omega
          obtain ⟨b, off, ca', hv, at_⟩ := (H.out.gr (G5.out.trans GZ.out)).at_ (by omega)
          cases hv
          obtain ⟨q0, q1, q2, q3, q4, q5, q6, q7, q8, q9, q10⟩ := at_ i hil
          have CA := Lib.hid (fun W => rcan_any (l i) m ea W (SM.out i hil) HMC.out)
          have hsucc : cnB (fun j => canB (l j) m ea) (i + 1) = cnB (fun j => canB (l j) m ea) i + (if canB (l i) m ea then 1 else 0) := rfl
          have hle := cnB_le (fun j => canB (l j) m ea) i
          obtain ⟨t, ht⟩ : ∃ t, t = l i := ⟨_, rfl⟩
          rw [← ht] at q0 q1 q2 q3 q4 q5 q6 q7 q8 q9 q10 CA hsucc
          obtain ⟨bb, hbb⟩ : ∃ bb, canB t m ea = bb := ⟨_, rfl⟩
          rw [hbb] at CA hsucc
          generalize cnB (fun j => canB (l j) m ea) i = ci at *
          have HS := Lib.hid hsucc
          clear at_ ht hbb hsucc
          obtain ⟨tid, te, tp, tsp, tle, twa, tac, tr, tg, tdn, tct⟩ := t
          simp only at *
          go_wp2_with fail
          refine (CA.out _).mono ?_
          rintro x w6 ⟨rfl, g6⟩
          have G6 := Lib.hid (GZ.out.trans g6)
          clear g6 CA q0 q1 q2 q3 q4 q5 q6 q7 q8 q9 q10
          cases bb
          · go_wp2_with fail
            go_roundg (N - (i + 1))
            case measure => omega
            case rel => exact ⟨i + 1, by go_num, by rw [HS.out]; rfl, by omega, Nat.le_refl _, G6.out⟩
          · go_wp2_with fail
            go_roundg (N - (i + 1))
            case measure => omega
            case rel => exact ⟨i + 1, by go_num, by rw [HS.out]; go_num, by omega, Nat.le_refl _, G6.out⟩
        · have hilz : ¬ (i : Int) < (N : Int) := by omega
          obtain rfl : N = i := by omega
          rw [← HCN.out]
          have G6 := Lib.hid (G5.out.trans GZ.out)
          have k6 := gcell GZ.out k0
          have RA6 := Lib.hid (rowI_gr RA2.out GZ.out)
          have RB6 := Lib.hid (rowI_gr RB2.out GZ.out)
          clear k0 RA2 RB2 GZ G5
          go_wp2_with fail
          all_goals
            go_loopg [16] mn (fun kx s16 wz => ∃ k : Nat, s16 = .int .i64 k ∧ k ≤ mn ∧ mn - k ≤ kx ∧ Aside (Gr wr wz))
            case atStart => exact ⟨0, rfl, by omega, by omega, Ke.refl _ _⟩
            case round =>
              obtain ⟨k, rfl, hk, hkx, GY⟩ := hrel
              by_cases hlt : k < mn
              · have hltz : (k : Int) < (mn : Int) := by omega
                have hltc : (k : Int) < (cn : Int) := by omega
                have rx := rowI_gr RA6.out GY.out
                have ry := rowI_gr RB6.out GY.out
                obtain ⟨g1, cap1, hv1, _⟩ := Row.form rx (by rw [LA.out]; omega)
                obtain ⟨g2, cap2, hv2, _⟩ := Row.form ry (by rw [LB.out]; omega)
                cases hv1
                cases hv2
                have e1' := gw_cell (rowI_cell rx rfl k (by rw [LA.out]; omega))
                have e2' := gw_cell (rowI_cell ry rfl k (by rw [LB.out]; exact hlt))
                rw [hat.out k (by rw [LB.out]; exact hlt)] at e1'
                generalize (bestI l N m kk ea).getD k 0 = z at e1' e2'
                have dz : (z != z) = false := by simp
                clear rx ry
                go_upto_region 30 with fail
                have hne : Nonempty (GW wr) := ⟨⟨wr, Ke.refl _ _⟩⟩
                have hself := @gw_self wr
                have hself' : ∀ p : GW wr, ∃ q : GW wr, q.W = p.W := fun p => ⟨p, rfl⟩
                refine wp_region_gw (by first | assumption | kernel_rfl) (by kernel_rfl) ?_
                repeat (go_big_quiet_step (fail))
                refine wpQuiet_nil ?_
                intro _ hw'
                obtain ⟨pp, hw''⟩ := hw'
                subst hw''
                have G7 := Lib.hid (GY.out.trans pp.gr)
                clear e1' e2' hne hself hself'
                generalize pp.W = w9 at *
                clear pp
                go_wp2_with fail
                go_roundg (mn - (k + 1))
                case measure => omega
                case rel => exact ⟨k + 1, by go_num, by omega, Nat.le_refl _, G7.out⟩
              · have hltz : ¬ (k : Int) < (mn : Int) := by omega
                go_wp2
                go_ret
                exact ⟨rfl, G6.out.trans GY.out⟩
end Go.Proofs.Ytkapejgokcpbiaa
