/- pick: the contract of the document's Best, walked. -/
import Derived.Test.YtkapejgokcpbiaaU1
namespace Go.Proofs.Ytkapejgokcpbiaa
open Go.RowKit Go.Lib
set_option linter.unusedVariables false
set_option maxRecDepth 100000
set_option maxHeartbeats 2000000

theorem rbest_any {w : World} {v : Value} {N : Nat} {l : Nat → Tk} (h : TsIn w v N l) (hN : N ≤ 65536) (hs : ∀ i, i < N → SmT (l i)) (c : Int) (hc : SmC c) (n : Int) (ea : Bool) :
    Calls Try.prog 17 #[v, .int .i64 c, .int .i64 n, .bool ea] w fun e w' => IdsP w (bestI l N c n.toNat ea) e w' := by
  have H := Lib.hid h
  have HS := Lib.hid hs
  have HC := Lib.hid hc
  obtain ⟨a, ca, rfl⟩ := h.form
  have R0 := Lib.hid (ro_start w N l c ea n.toNat)
  have mk := make63 N hN w
  clear h hs hc
  go_enter Try.func17, Try.ntmps17
  go_wp2_with fail
  generalize (w.alloc (.cells (Array.replicate N (.bool false)) 4)) = W0 at *
  generalize hub : w.heap.size = ub at *
  clear mk
  go_loopg [9, 11] N (fun kx s9 s11 wr => ∃ (q : Nat) (L : List Nat) (R U : Nat → Bool), s11 = .int .i64 q ∧ q = L.length ∧ cnB R N ≤ kx ∧ Aside (Ro w wr ub N l c ea n.toNat s9 L R U))
  case atStart => exact ⟨0, [], _, _, rfl, rfl, cnB_le _ _, R0.out⟩
  case round =>
    obtain ⟨q, L, R, U, rfl, hq, hkx, HI⟩ := hrel
    have hln := HI.out.ln
    have hlk := HI.out.lk
    rw [← hq] at hln hlk
    clear R0
    by_cases hlt : (q : Int) < n
    · have HQ := Lib.hid hq
      clear hq
      go_wp2_with fail
      go_loopg [12, 13] N (fun kx2 s12 s13 wr2 => ∃ i : Nat, s13 = .int .i64 i ∧ i ≤ N ∧ N - i ≤ kx2 ∧ s12 = .int .i64 (atZ (fstI (fun j => rkT (l j)) R i)) ∧ Aside (Gr wr wr2))
      case atStart => exact ⟨0, rfl, by omega, by omega, rfl, Ke.refl _ _⟩
      case round =>
        obtain ⟨i, rfl, hi, hix, rfl, G⟩ := hrel
        by_cases hil : i < N
        · have hilz : (i : Int) < (N : Int) := by omega
          have RO := Lib.hid (HI.out.gr' G.out)
          have T := H.out.gr RO.out.gr
          obtain ⟨b, off, ca', hv, at_⟩ := T.at_ (by omega)
          cases hv
          have HT := Lib.hid T
          have AT := Lib.hid at_
          have uc := RO.out.us.cell i hil
          have ru := RO.out.ru i
          have RU := Lib.hid ru
          obtain ⟨q0, q1, q2, q3, q4, q5, q6, q7, q8, q9, q10⟩ := at_ i hil
          have CAN : Hid (∀ W, Gr wr W → Calls Try.prog 11 #[VT (l i), .int .i64 c, .bool ea] W fun e w' => e = .returned (.bool (canB (l i) c ea)) ∧ Gr wr w') := fun W g => (rcan_any (l i) c ea W (HS.out i hil) HC.out).mono (fun e w' z => ⟨z.1, g.trans z.2⟩)
          have TWI : Hid (∀ W, Gr wr W → Calls Try.prog 26 #[.slice (some ⟨b, off, none⟩) N ca, .int .i64 i] W fun e w' => e = .returned (.bool (twB l i)) ∧ Gr wr w') := fun W g => (twice_any (HT.out.gr g) hN i hil).mono (fun e w' z => ⟨z.1, g.trans z.2⟩)
          have hcnd : cndB l c ea i = (canB (l i) c ea && !twB l i) := rfl
          rw [hcnd] at RU
          have G0 := Lib.hid G.out
          clear T at_ hcnd G ru
          obtain ⟨t, ht⟩ : ∃ t, t = l i := ⟨_, rfl⟩
          rw [← ht] at q0 q1 q2 q3 q4 q5 q6 q7 q8 q9 q10 CAN
          have HTT := Lib.hid ht
          clear ht
          obtain ⟨tid, te, tp, tsp, tle, twa, tac, tr, tg, tdn, tct⟩ := t
          simp only at q0 q1 q2 q3 q4 q5 q6 q7 q8 q9 q10
          cases hu : U i
          · rw [hu] at uc
            cases hcn : canB (l i) c ea
            · have hR : R i = false := by rw [RU.out, hcn]; rfl
              have FN := Lib.hid (fst_no (key := fun j => rkT (l j)) hR)
              rw [HTT.out, hcn] at CAN
              clear hu hcn hR
              rw [← HTT.out] at CAN
              go_wp2_with fail
              refine (CAN.out _ (Ke.refl _ _)).mono ?_
              rintro e w3 ⟨rfl, g3⟩
              have G3 := Lib.hid (G0.out.trans g3)
              clear g3 CAN TWI
              go_wp2_with fail
              go_roundg (N - (i + 1))
              case measure => omega
              case rel => exact ⟨i + 1, by go_num, by omega, Nat.le_refl _, by rw [FN.out], G3.out⟩
            · cases htw : twB l i
              · have hR : R i = true := by rw [RU.out, hcn, htw, hu]; rfl
                have HR := Lib.hid hR
                rw [HTT.out, hcn] at CAN
                rw [htw] at TWI
                clear hu hcn htw hR
                rw [← HTT.out] at CAN
                go_wp2_with fail
                refine (CAN.out _ (Ke.refl _ _)).mono ?_
                rintro e w3 ⟨rfl, g3⟩
                go_wp2_with fail
                refine (TWI.out _ g3).mono ?_
                rintro e w4 ⟨rfl, g4⟩
                have G4 := Lib.hid (G0.out.trans g4)
                have K4 := Lib.hid g4
                replace q0 := gw_cell (gcell g4 q0)
                replace q1 := gw_cell (gcell g4 q1)
                replace q2 := gw_cell (gcell g4 q2)
                replace q3 := gw_cell (gcell g4 q3)
                replace q4 := gw_cell (gcell g4 q4)
                replace q5 := gw_cell (gcell g4 q5)
                replace q6 := gw_cell (gcell g4 q6)
                replace q7 := gw_cell (gcell g4 q7)
                replace q8 := gw_cell (gcell g4 q8)
                replace q9 := gw_cell (gcell g4 q9)
                replace q10 := gw_cell (gcell g4 q10)
                clear g3 g4 CAN TWI uc
                have hne : Nonempty (GW w4) := ⟨⟨w4, Ke.refl _ _⟩⟩
                have hself := @gw_self w4
                have hself' : ∀ p : GW w4, ∃ q : GW w4, q.W = p.W := fun p => ⟨p, rfl⟩
                cases e : fstI (fun j => rkT (l j)) R i with
                | none =>
                  have FN := Lib.hid (fst_new HR.out e)
                  clear e
                  simp only [atZ]
                  go_upto_region 11 with fail
                  refine wp_region_gw (by first | assumption | kernel_rfl) (by kernel_rfl) ?_
                  repeat (go_big_quiet_step (fail))
                  refine wpQuiet_nil ?_
                  intro _ hw'
                  obtain ⟨pp, hw''⟩ := hw'
                  subst hw''
                  have G5 := Lib.hid (G4.out.trans pp.gr)
                  clear q0 q1 q2 q3 q4 q5 q6 q7 q8 q9 q10 hne hself hself'
                  generalize pp.W = w5 at *
                  clear pp
                  go_wp2_with fail
                  go_roundg (N - (i + 1))
                  case measure => omega
                  case rel => exact ⟨i + 1, by go_num, by omega, Nat.le_refl _, by rw [FN.out]; rfl, G5.out⟩
                | some a =>
                  obtain ⟨ha, hRa⟩ := fstI_in e
                  have haN : a < N := by omega
                  have haZ : (a : Int) < (N : Int) := by omega
                  have haz : ¬ (a : Int) < 0 := by omega
                  obtain ⟨p0, p1, p2, p3, p4, p5, p6, p7, p8, p9, p10⟩ := (AT.out a haN).gr K4.out
                  have RK1 : Hid (∀ W, Calls Try.prog 14 #[VT ⟨tid, te, tp, tsp, tle, twa, tac, tr, tg, tdn, tct⟩] W fun e w' => e = .returned (V (rkT (l i))) ∧ Gr W w') := fun W => by
                    rw [HTT.out]; exact rrank_any (l i) W (HS.out i hil).g
                  have RK2 := Lib.hid (fun W => rrank_any (l a) W (HS.out a haN).g)
                  have LS := Lib.hid (fun W => rless_any (rkT (l i)) (rkT (l a)) W)
                  obtain ⟨t2, ht2⟩ : ∃ t2, t2 = l a := ⟨_, rfl⟩
                  have FY := Lib.hid (fun q => fst_less HR.out e q)
                  have FM := Lib.hid (fun q => fst_more HR.out e q)
                  obtain ⟨bl, hbl⟩ : ∃ bl, lessB (rkT (l i)) (rkT (l a)) = bl := ⟨_, rfl⟩
                  rw [hbl] at LS
                  have HBL := Lib.hid hbl
                  generalize rkT (l i) = r1 at RK1 LS
                  generalize rkT (l a) = r2 at RK2 LS
                  rw [← ht2] at p0 p1 p2 p3 p4 p5 p6 p7 p8 p9 p10 RK2
                  obtain ⟨sid, se, sp, ssp, sle, swa, sac, sr, sg, sdn, sct⟩ := t2
                  obtain ⟨r1d, r1b, r1g, r1i⟩ := r1
                  obtain ⟨r2d, r2b, r2g, r2i⟩ := r2
                  simp only at p0 p1 p2 p3 p4 p5 p6 p7 p8 p9 p10
                  replace p0 := gw_cell p0
                  replace p1 := gw_cell p1
                  replace p2 := gw_cell p2
                  replace p3 := gw_cell p3
                  replace p4 := gw_cell p4
                  replace p5 := gw_cell p5
                  replace p6 := gw_cell p6
                  replace p7 := gw_cell p7
                  replace p8 := gw_cell p8
                  replace p9 := gw_cell p9
                  replace p10 := gw_cell p10
                  clear e hRa hbl ht2
                  simp only [atZ]
                  go_upto_region 11 with fail
                  refine wp_region_gw (by first | assumption | kernel_rfl) (by kernel_rfl) ?_
                  repeat (go_big_quiet_step (first | (go_at_call 27; with_reducible exact gw_of (LS.out _)) | (go_at_call 14; first | with_reducible exact gw_of (RK1.out _) | with_reducible exact gw_of (RK2.out _))))
                  refine wpQuiet_nil ?_
                  intro _ hw'
                  obtain ⟨pp, hw''⟩ := hw'
                  subst hw''
                  have G5 := Lib.hid (G4.out.trans pp.gr)
                  clear q0 q1 q2 q3 q4 q5 q6 q7 q8 q9 q10 p0 p1 p2 p3 p4 p5 p6 p7 p8 p9 p10 hne hself hself' RK1 RK2 LS
                  generalize pp.W = w5 at *
                  clear pp
                  cases bl
                  · go_wp2_with fail
                    go_roundg (N - (i + 1))
                    case measure => omega
                    case rel => exact ⟨i + 1, by go_num, by omega, Nat.le_refl _, by rw [FM.out HBL.out]; rfl, G5.out⟩
                  · go_wp2_with fail
                    go_roundg (N - (i + 1))
                    case measure => omega
                    case rel => exact ⟨i + 1, by go_num, by omega, Nat.le_refl _, by rw [FY.out HBL.out]; rfl, G5.out⟩
              · have hR : R i = false := by rw [RU.out, hcn, htw]; rfl
                have FN := Lib.hid (fst_no (key := fun j => rkT (l j)) hR)
                rw [HTT.out, hcn] at CAN
                rw [htw] at TWI
                clear hu hcn htw hR
                rw [← HTT.out] at CAN
                go_wp2_with fail
                refine (CAN.out _ (Ke.refl _ _)).mono ?_
                rintro e w3 ⟨rfl, g3⟩
                go_wp2_with fail
                refine (TWI.out _ g3).mono ?_
                rintro e w4 ⟨rfl, g4⟩
                have G4 := Lib.hid (G0.out.trans g4)
                clear g3 g4 CAN TWI
                go_wp2_with fail
                go_roundg (N - (i + 1))
                case measure => omega
                case rel => exact ⟨i + 1, by go_num, by omega, Nat.le_refl _, by rw [FN.out], G4.out⟩
          · rw [hu] at uc
            have hR : R i = false := by rw [RU.out, hu]; simp
            have FN := Lib.hid (fst_no (key := fun j => rkT (l j)) hR)
            clear hu hR CAN TWI
            go_wp2_with fail
            go_roundg (N - (i + 1))
            case measure => omega
            case rel => exact ⟨i + 1, by go_num, by omega, Nat.le_refl _, by rw [FN.out], G0.out⟩
        · have hilz : ¬ (i : Int) < (N : Int) := by omega
          obtain rfl : N = i := by omega
          have RO := Lib.hid (HI.out.gr' G.out)
          clear HI
          cases e : fstI (fun j => rkT (l j)) R N with
          | none =>
            have D := Lib.hid (RO.out.done (.inr e))
            clear e RO G
            simp only [atZ]
            go_wp2
            go_ret
            exact D.out
          | some a =>
            obtain ⟨ha, hRa⟩ := fstI_in e
            have haZ : (a : Int) < (N : Int) := by omega
            have haz : ¬ (a : Int) < 0 := by omega
            have hcut := cnB_cut ha hRa
            have uc := RO.out.us.cell a ha
            have uz := RO.out.us.fz a
            obtain ⟨v', w1, hr, ro⟩ := RO.out.step e (by have := HQ.out; omega) hN
            obtain ⟨b, off, ca', hv, at0⟩ := H.out.at_ (by omega)
            cases hv
            have hbu : b ≠ ub := fun z => by have := lt_of_cell (at0 a ha).c0; simp only at this; omega
            have p0 := ((at0 a ha).gr RO.out.gr).c0
            have HR := Lib.hid (hr 37)
            have RO2 := Lib.hid ro
            obtain ⟨x, hx⟩ : ∃ x, (l a).id = x := ⟨_, rfl⟩
            rw [hx] at p0 HR
            have hul := RO.out.us.lt
            have hq2 : q + 1 = (L ++ [a]).length := by rw [List.length_append, List.length_singleton, HQ.out]
            clear e hRa hr ro at0 hx RO
            simp only [atZ]
            go_wp2_with (at_builtin; refine Lib.wpList_append_run _ rfl _ _ 37 37 rfl _ _ rfl rfl _ _ HR.out ?_)
            go_roundg (cnB (upd R a false) N)
            case measure => omega
            case rel => exact ⟨q + 1, _, _, _, by go_num, hq2, Nat.le_refl _, RO2.out⟩
    · have D := Lib.hid (HI.out.done (.inl (by omega)))
      clear HI
      go_wp2
      go_ret
      exact D.out
end Go.Proofs.Ytkapejgokcpbiaa
