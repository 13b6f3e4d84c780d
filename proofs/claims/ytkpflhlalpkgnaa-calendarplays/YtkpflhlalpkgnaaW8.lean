/- CalendarPlays, walked. -/
import Derived.Test.YtkpflhlalpkgnaaV8
namespace Go.Proofs.Ytkpflhlalpkgnaa
open Go.RowKit Go.Lib Go.Maps
set_option linter.unusedVariables false

set_option maxRecDepth 100000 in
set_option maxHeartbeats 4000000 in
theorem plays_walk (a0 : Option Addr) (N c0 : Nat) (q : Nat → Deed) (w : World) (hn : N ≤ 200) (hq : DdsAt w a0 N q) :
    Calls Try.prog 3 #[.slice a0 N c0] w fun e w' => e = .returned (.bool true) ∧ Below w.heap.size w w' := by
  have CA := Lib.hid (awake_true w)
  have HQ := Lib.hid hq
  have hnz : ¬ (N : Int) > 200 := by omega
  clear hq
  go_enter Try.func3, Try.ntmps3
  go_wp2_with fail
  refine CA.out.mono ?_
  rintro e w1 ⟨rfl, b1⟩
  have C := Lib.hid (law_new b1)
  clear CA b1
  go_wp2_with fail
  refine C.out.mono ?_
  rintro e w2 ⟨rfl, h2, _⟩
  have I2 : Hid (Inv w w1.heap.size 0 (.slice none 0 0) w2) := ⟨0, _, [], none, 0, 0, rfl, h2, Mr.start _ _ _, by omega, by omega⟩
  clear C h2
  generalize w1.heap.size = p at *
  go_wp2_with fail
  go_loopg [4, 5] N (fun kx s4 s5 wr => ∃ i : Nat, s5 = .int .i64 i ∧ i ≤ N ∧ N - i ≤ kx ∧ Aside (Inv w p i s4 wr))
  case atStart => exact ⟨0, rfl, by omega, by omega, I2.out⟩
  case round =>
    clear I2
    obtain ⟨i, rfl, hi, hk, D⟩ := hrel
    by_cases hlt : i < N
    · have hltz : (i : Int) < (N : Int) := by omega
      obtain ⟨c, F, A, a, n, cap, rfl, CL0, MR0, hci, hni⟩ := D.out
      obtain ⟨b0, o0, rfl, hb0, hq⟩ := HQ.out (by omega)
      obtain ⟨q0, q1, q2⟩ := hq i hlt
      have bw := CL0.below
      have t0 := (bw.cell (p := ⟨b0, o0 + i * 3, none⟩) hb0).trans q0
      have t1 := (bw.cell (p := ⟨b0, o0 + i * 3 + 1, none⟩) hb0).trans q1
      have t2 := (bw.cell (p := ⟨b0, o0 + i * 3 + 2, none⟩) hb0).trans q2
      have hwf := Lib.hid (q i).hi
      generalize (q i).o = od at *
      generalize (q i).t = td at *
      generalize (q i).i = id at *
      have P0 := Lib.hid (Pl.start CL0 MR0 ⟨od, td, id⟩)
      clear D CL0 MR0 bw q0 q1 q2 hq
      go_upto_block 2 with fail
      clear t0 t1 t2
      generalize (wr.alloc (.cells #[.int .i64 od, .int .i64 td, .int .i64 id] 27)) = W at *
      generalize wr.heap.size = B at *
      go_cut [4] (fun s4 wx => Inv w p (i + 1) s4 wx)
      case first =>
        by_cases gP : od = 0 ∨ od = 1 ∨ od = 2 ∨ od = 3
        · go_upto_if 35 with fail
          go_cut [35] (fun s35 wx => s35 = .bool true ∧ wx = W)
          case first =>
            clear P0
            rcases gP with rfl | rfl | rfl | rfl
            all_goals
              go_wp2
              go_meet
              exact ⟨rfl, rfl⟩
          case rest =>
            obtain ⟨rfl, hw⟩ := hcut
            obtain rfl := hw.symm
            clear hw gP
            have b1 := P0.out.b1
            have b2 := P0.out.b2
            simp only at b1 b2
            have C := Lib.hid (law_put P0.out.cl (by omega) td id hwf.out)
            go_wp2_with fail
            refine C.out.mono ?_
            rintro e w4 ⟨rfl, F4, c4, s4⟩
            have P4 := Lib.hid (P0.out.next c4 s4)
            have SR := Lib.hid P0.out.cl.cl.srt
            clear C c4 s4 b1 b2 P0
            have hAl := P4.out.mr.len
            have hnc := P4.out.mr.nc
            go_upto_block 3 with fail
            go_cut [7] (fun s7 wx => AtF A ⟨od, td, id⟩ w4 s7 wx)
            case first =>
              as_aux_lemma =>
                go_wp2_with fail
                go_loopg [7] n (fun kx s7 wz => ∃ k : Nat, s7 = .int .i64 k ∧ k ≤ kx ∧ k ≤ n ∧ Aside (AtI A ⟨od, td, id⟩ k ∧ Gr w4 wz))
                case atStart => exact ⟨n, rfl, Nat.le_refl _, Nat.le_refl _, by rw [← hAl]; exact AtI.start _ _, Ke.refl _ _⟩
                case round =>
                  obtain ⟨k, rfl, hkx, hkn, AT⟩ := hrel
                  have hne : Nonempty (GW wr) := ⟨⟨wr, Ke.refl _ _⟩⟩
                  have hself := @gw_self wr
                  have hself' : ∀ p : GW wr, ∃ q : GW wr, q.W = p.W := fun p => ⟨p, rfl⟩
                  by_cases hk0 : 0 < k
                  · obtain ⟨m, hm⟩ : ∃ m, k = m + 1 := ⟨k - 1, by omega⟩
                    obtain ⟨g, off, rfl, x0, x1, x2⟩ := (P4.out.mr.gr AT.out.2).cells (j := m) (by omega)
                    have k1 := gw_cell x1
                    have k2 := gw_cell x2
                    have k3 := gw_cell (gcell AT.out.2 P4.out.b1)
                    have k4 := gw_cell (gcell AT.out.2 P4.out.b2)
                    simp only at k3 k4
                    have em : (k : Int) - 1 = (m : Int) := by omega
                    have hmz : (m : Int) < (n : Int) := by omega
                    have hd : decide ((k : Int) > 0) = true := by simp; omega
                    have hd' : decide (0 < k) = true := by simp; omega
                    have wm : IntKind.i64.wrap ((k : Int) - 1) = (m : Int) := by rw [IntKind.wrap_i64]; omega
                    have hk1 : k - 1 = m := by omega
                    clear x0 x1 x2
                    by_cases l1 : td < (A.getD m default).t
                    · have HS : Hid (AtI A ⟨od, td, id⟩ m) := AtI.step (by rw [← hm]; exact AT.out.1) (.inl l1)
                      generalize (A.getD m default).t = mt at *
                      generalize (A.getD m default).i = mi at *
                      have hl1 : decide (td < mt) = true := by simp [l1]
                      clear l1
                      go_upto_region 20 with fail
                      refine wp_region_gw (by kernel_rfl) (by kernel_rfl) ?_
                      repeat (go_big_quiet_step (fail))
                      refine wpQuiet_nil ?_
                      intro _ hw'
                      obtain ⟨pp, hw''⟩ := hw'
                      subst hw''
                      have GG := Lib.hid (AT.out.2.trans pp.gr)
                      clear k1 k2 k3 k4 hne hself hself'
                      generalize pp.W = W1 at *
                      clear pp
                      go_wp2_with fail
                      go_roundg m
                      case measure => omega
                      case rel => exact ⟨m, by go_num, Nat.le_refl _, by omega, HS.out, GG.out⟩
                    · by_cases l2 : td = (A.getD m default).t
                      · by_cases l3 : id < (A.getD m default).i
                        · have HS : Hid (AtI A ⟨od, td, id⟩ m) := AtI.step (by rw [← hm]; exact AT.out.1) (.inr ⟨l2, l3⟩)
                          generalize (A.getD m default).t = mt at *
                          generalize (A.getD m default).i = mi at *
                          have hl1 : decide (td < mt) = false := by simp [l1]
                          have hl2 : (td == mt) = true := by simp [l2]
                          have hl3 : decide (id < mi) = true := by simp [l3]
                          clear l1 l2 l3
                          go_upto_region 20 with fail
                          refine wp_region_gw (by kernel_rfl) (by kernel_rfl) ?_
                          repeat (go_big_quiet_step (fail))
                          refine wpQuiet_nil ?_
                          intro _ hw'
                          obtain ⟨pp, hw''⟩ := hw'
                          subst hw''
                          have GG := Lib.hid (AT.out.2.trans pp.gr)
                          clear k1 k2 k3 k4 hne hself hself'
                          generalize pp.W = W1 at *
                          clear pp
                          go_wp2_with fail
                          go_roundg m
                          case measure => omega
                          case rel => exact ⟨m, by go_num, Nat.le_refl _, by omega, HS.out, GG.out⟩
                        · have EX : Hid (¬ lt2 (ky ⟨od, td, id⟩) (ky (A.getD (k - 1) default))) := by
                            rw [hk1]
                            show ¬ lt2 (td, id) ((A.getD m default).t, (A.getD m default).i)
                            unfold lt2
                            simp only
                            omega
                          generalize (A.getD m default).t = mt at *
                          generalize (A.getD m default).i = mi at *
                          have hl1 : decide (td < mt) = false := by simp [l1]
                          have hl2 : (td == mt) = true := by simp [l2]
                          have hl3 : decide (id < mi) = false := by simp [l3]
                          clear l1 l2 l3
                          go_upto_region 20 with fail
                          refine wp_region_gw (by kernel_rfl) (by kernel_rfl) ?_
                          repeat (go_big_quiet_step (fail))
                          refine wpQuiet_nil ?_
                          intro _ hw'
                          obtain ⟨pp, hw''⟩ := hw'
                          subst hw''
                          have GG := Lib.hid (AT.out.2.trans pp.gr)
                          clear k1 k2 k3 k4 hne hself hself'
                          generalize pp.W = W1 at *
                          clear pp
                          go_wp2_with fail
                          go_meet
                          exact ⟨k, rfl, AT.out.1, .inr EX.out, GG.out⟩
                      · have EX : Hid (¬ lt2 (ky ⟨od, td, id⟩) (ky (A.getD (k - 1) default))) := by
                          rw [hk1]
                          show ¬ lt2 (td, id) ((A.getD m default).t, (A.getD m default).i)
                          unfold lt2
                          simp only
                          omega
                        generalize (A.getD m default).t = mt at *
                        generalize (A.getD m default).i = mi at *
                        have hl1 : decide (td < mt) = false := by simp [l1]
                        have hl2 : (td == mt) = false := by simp [l2]
                        clear l1 l2
                        go_upto_region 20 with fail
                        refine wp_region_gw (by kernel_rfl) (by kernel_rfl) ?_
                        repeat (go_big_quiet_step (fail))
                        refine wpQuiet_nil ?_
                        intro _ hw'
                        obtain ⟨pp, hw''⟩ := hw'
                        subst hw''
                        have GG := Lib.hid (AT.out.2.trans pp.gr)
                        clear k1 k2 k3 k4 hne hself hself'
                        generalize pp.W = W1 at *
                        clear pp
                        go_wp2_with fail
                        go_meet
                        exact ⟨k, rfl, AT.out.1, .inr EX.out, GG.out⟩
                  · have hd : decide ((k : Int) > 0) = false := by simp; omega
                    have hd' : decide (0 < k) = false := by simp; omega
                    go_upto_region 20 with fail
                    refine wp_region_gw (by kernel_rfl) (by kernel_rfl) ?_
                    repeat (go_big_quiet_step (fail))
                    refine wpQuiet_nil ?_
                    intro _ hw'
                    obtain ⟨pp, hw''⟩ := hw'
                    subst hw''
                    have GG := Lib.hid (AT.out.2.trans pp.gr)
                    clear hne hself hself'
                    generalize pp.W = W1 at *
                    clear pp
                    go_wp2_with fail
                    go_meet
                    exact ⟨k, rfl, AT.out.1, .inl (by omega), GG.out⟩
            case rest =>
              obtain ⟨k, rfl, AT', EX', G'⟩ := hcut
              have P5 := Lib.hid (P4.out.gr G')
              have AT := Lib.hid AT'
              have EX := Lib.hid EX'
              have hkn : k ≤ n := by have := AT'.le; omega
              clear P4 AT' EX' G'
              generalize wc = W5 at *
              have hn1 : n ≤ 1000 := by omega
              have hAk : (A.take k).length ≤ 1000 := by simp; omega
              have hAk2 : (A.take k ++ [(⟨od, td, id⟩ : Dd)]).length ≤ 1001 := by simp; omega
              have BX : Hid (∀ X : World, Gr W5 X → X.cell? ⟨B, 0, none⟩ = some (.int .i64 od) ∧ X.cell? ⟨B, 1, none⟩ = some (.int .i64 td) ∧ X.cell? ⟨B, 2, none⟩ = some (.int .i64 id)) := fun X g => ⟨gcell g P5.out.b0, gcell g P5.out.b1, gcell g P5.out.b2⟩
              have hkc : (k : Int) ≤ (cap : Int) := by omega
              have hkz : (k : Int) ≤ (n : Int) := by omega
              have hk0 : (0 : Int) ≤ (k : Int) := by omega
              rcases P5.out.mr.at_ with ⟨rfl, hcap⟩ | ⟨g, off, rfl, _⟩
              · obtain rfl : cap = 0 := hcap
                obtain rfl : n = 0 := by omega
                obtain rfl : k = 0 := by omega
                as_aux_lemma =>
                  go_upto_region 22 with fail
                  go_region_held3 (fun w' => w'.cell? ⟨B, 0, none⟩ = some (.int .i64 od) ∧ w'.cell? ⟨B, 1, none⟩ = some (.int .i64 td) ∧ w'.cell? ⟨B, 2, none⟩ = some (.int .i64 id))
                    (with_reducible exact BX.out _ (by repeat (first | with_reducible assumption | with_reducible exact Ke.refl _ _ | with_reducible apply Ke.drew | with_reducible apply Ke.alloc)))
                    (first
                      | (refine step1 rfl (.tmp 85) (.tmp 88) rfl P5.out.mr 0 _ rfl rfl (by omega) (by omega) (by repeat (first | with_reducible assumption | with_reducible exact Ke.refl _ _ | with_reducible apply Ke.drew | with_reducible apply Ke.alloc)) (by omega) (by first | exact heap_a _ _ | exact heap_b _ _ _ | exact heap_c _ _ _) ?_; intro v1 X1 Q1; have g1 := Q1.bd.gr)
                      | (refine step2 rfl (.tmp 89) (.tmp 91) rfl (Q1.bd.next ((Ke.refl _ _).alloc _)) ⟨od, td, id⟩ _ rfl rfl hAk (heap_alloc_new _ _) ?_; intro v2 X2 Q2; have g2 := Q2.gr)
                      | (refine step2 rfl (.tmp 89) (.tmp 91) rfl Q1.bd ⟨od, td, id⟩ _ rfl rfl hAk ((Q1.blk _ (by simp <;> omega) (by omega)).trans (by first | exact heap_a _ _ | exact heap_b _ _ _ | exact heap_c _ _ _)) ?_; intro v2 X2 Q2; have g2 := Q2.gr)
                      | (refine step3 rfl (.tmp 92) (.tmp 95) rfl P5.out.mr 0 Q2 _ rfl rfl (by omega) (by omega) hAk2 (.inl ⟨rfl, rfl⟩) ?_; intro v3 X3 Q3; have g3 := Q3.gr))
                  all_goals
                    have QQ := Lib.hid Q3
                    clear Q1 Q2 Q3
                    go_wp2_with fail
                    go_meet
                    exact put_end P5.out SR.out hci hni AT.out (.inl rfl) QQ.out
              · obtain ⟨A2, hA2, hadd⟩ := slice_at g off cap k n hkn hnc
                as_aux_lemma =>
                  go_upto_region 22 with fail
                  go_region_held3 (fun w' => w'.cell? ⟨B, 0, none⟩ = some (.int .i64 od) ∧ w'.cell? ⟨B, 1, none⟩ = some (.int .i64 td) ∧ w'.cell? ⟨B, 2, none⟩ = some (.int .i64 id))
                    (with_reducible exact BX.out _ (by repeat (first | with_reducible assumption | with_reducible exact Ke.refl _ _ | with_reducible apply Ke.drew | with_reducible apply Ke.alloc)))
                    (first
                      | (refine step1 rfl (.tmp 85) (.tmp 88) rfl P5.out.mr k _ rfl rfl (by omega) (by omega) (by repeat (first | with_reducible assumption | with_reducible exact Ke.refl _ _ | with_reducible apply Ke.drew | with_reducible apply Ke.alloc)) (by omega) (by first | exact heap_a _ _ | exact heap_b _ _ _ | exact heap_c _ _ _) ?_; intro v1 X1 Q1; have g1 := Q1.bd.gr)
                      | (refine step2 rfl (.tmp 89) (.tmp 91) rfl (Q1.bd.next ((Ke.refl _ _).alloc _)) ⟨od, td, id⟩ _ rfl rfl hAk (heap_alloc_new _ _) ?_; intro v2 X2 Q2; have g2 := Q2.gr)
                      | (refine step2 rfl (.tmp 89) (.tmp 91) rfl Q1.bd ⟨od, td, id⟩ _ rfl rfl hAk ((Q1.blk _ (by simp <;> omega) (by omega)).trans (by first | exact heap_a _ _ | exact heap_b _ _ _ | exact heap_c _ _ _)) ?_; intro v2 X2 Q2; have g2 := Q2.gr)
                      | (refine step3 rfl (.tmp 92) (.tmp 95) rfl P5.out.mr k Q2 _ rfl rfl (by omega) (by omega) hAk2 (.inr ⟨g, off, A2, cap - k, rfl, rfl, hadd⟩) ?_; intro v3 X3 Q3; have g3 := Q3.gr))
                  all_goals
                    have QQ := Lib.hid Q3
                    clear Q1 Q2 Q3
                    go_wp2_with fail
                    go_meet
                    exact put_end P5.out SR.out hci hni AT.out EX.out QQ.out
        · by_cases g4 : od = 4
          · obtain rfl : od = 4 := g4
            have b1 := P0.out.b1
            simp only at b1
            have hAl := P0.out.mr.len
            have C := Lib.hid (law_due P0.out.cl (by rw [List.length_map]; omega) td)
            go_wp2_with fail
            refine C.out.mono ?_
            rintro e w4 ⟨v, rfl, q4⟩
            obtain ⟨F4, c4, s4, n4⟩ := q4.ex
            have P4 := Lib.hid (P0.out.next c4 s4)
            have R4 := Lib.hid q4.row
            clear C c4 s4 n4 q4 b1 P0
            have hnc := P4.out.mr.nc
            go_upto_block 5 with fail
            go_cut [9] (fun s9 wx => DuF A td w4 s9 wx)
            case first =>
              as_aux_lemma =>
                go_wp2_with fail
                go_loopg [9] n (fun kx s9 wz => ∃ k : Nat, s9 = .int .i64 k ∧ k ≤ n ∧ n - k ≤ kx ∧ Aside ((∀ j, j < k → (A.getD j default).t ≤ td) ∧ Gr w4 wz))
                case atStart => exact ⟨0, rfl, by omega, by omega, fun j hj => by omega, Ke.refl _ _⟩
                case round =>
                  obtain ⟨k, rfl, hkn, hkx, AT⟩ := hrel
                  have hne : Nonempty (GW wr) := ⟨⟨wr, Ke.refl _ _⟩⟩
                  have hself := @gw_self wr
                  have hself' : ∀ p : GW wr, ∃ q : GW wr, q.W = p.W := fun p => ⟨p, rfl⟩
                  by_cases hk0 : k < n
                  · have hk0z : (k : Int) < (n : Int) := by omega
                    have hd : decide ((k : Int) < (n : Int)) = true := by simp; omega
                    have hd' : decide (k < n) = true := by simp; omega
                    obtain ⟨g, off, rfl, x0, x1, x2⟩ := (P4.out.mr.gr AT.out.2).cells (j := k) hk0
                    have k1 := gw_cell x1
                    have k3 := gw_cell (gcell AT.out.2 P4.out.b1)
                    simp only at k3
                    clear x0 x1 x2
                    by_cases l1 : (A.getD k default).t ≤ td
                    · have HS : Hid (∀ j, j < k + 1 → (A.getD j default).t ≤ td) := fun j hj => by
                        by_cases e : j = k
                        · rw [e]; exact l1
                        · exact AT.out.1 j (by omega)
                      generalize (A.getD k default).t = mt at *
                      have hl1 : decide (mt ≤ td) = true := by simp [l1]
                      clear l1
                      go_upto_region 26 with fail
                      refine wp_region_gw (by kernel_rfl) (by kernel_rfl) ?_
                      repeat (go_big_quiet_step (fail))
                      refine wpQuiet_nil ?_
                      intro _ hw'
                      obtain ⟨pp, hw''⟩ := hw'
                      subst hw''
                      have GG := Lib.hid (AT.out.2.trans pp.gr)
                      clear k1 k3 hne hself hself'
                      generalize pp.W = W1 at *
                      clear pp
                      go_wp2_with fail
                      go_roundg (n - (k + 1))
                      case measure => omega
                      case rel => exact ⟨k + 1, by go_num, by omega, Nat.le_refl _, HS.out, GG.out⟩
                    · have EX : Hid (td < (ky (A.getD k default)).1) := Int.not_le.1 l1
                      generalize hmt : (A.getD k default).t = mt at *
                      have hl1 : decide (mt ≤ td) = false := by simp [l1]
                      clear l1 hmt
                      go_upto_region 26 with fail
                      refine wp_region_gw (by kernel_rfl) (by kernel_rfl) ?_
                      repeat (go_big_quiet_step (fail))
                      refine wpQuiet_nil ?_
                      intro _ hw'
                      obtain ⟨pp, hw''⟩ := hw'
                      subst hw''
                      have GG := Lib.hid (AT.out.2.trans pp.gr)
                      clear k1 k3 hne hself hself'
                      generalize pp.W = W1 at *
                      clear pp
                      go_wp2_with fail
                      go_meet
                      exact ⟨k, rfl, by omega, AT.out.1, .inr (Int.not_le.2 EX.out), GG.out⟩
                  · have hk0z : ¬ (k : Int) < (n : Int) := by omega
                    have hd : decide ((k : Int) < (n : Int)) = false := by simp; omega
                    have hd' : decide (k < n) = false := by simp; omega
                    go_upto_region 26 with fail
                    refine wp_region_gw (by kernel_rfl) (by kernel_rfl) ?_
                    repeat (go_big_quiet_step (fail))
                    refine wpQuiet_nil ?_
                    intro _ hw'
                    obtain ⟨pp, hw''⟩ := hw'
                    subst hw''
                    have GG := Lib.hid (AT.out.2.trans pp.gr)
                    clear hne hself hself'
                    generalize pp.W = W1 at *
                    clear pp
                    go_wp2_with fail
                    go_meet
                    exact ⟨k, rfl, by omega, AT.out.1, .inl (by omega), GG.out⟩
            case rest =>
              as_aux_lemma =>
                obtain ⟨k, rfl, hkA, hk1, hk2, G'⟩ := hcut
                obtain ⟨du1, du2⟩ := due_at hkA hk1 hk2
                have hkn : k ≤ n := by omega
                have R5 := R4.out.keep (w' := wc) (fun g hg => G'.block g (R4.out.lt hg).2 (fun q => q))
                have P5' := P4.out.gr G'
                rw [du1, List.length_map, List.length_take, Nat.min_eq_left hkA] at R5
                rw [du2] at P5'
                have P5 := Lib.hid P5'
                have RR := Lib.hid R5
                obtain ⟨a1, cap1, rfl, s1⟩ := R5.sl
                have S1 := Lib.hid s1
                clear P4 R4 R5 P5' s1 G' hk1 hk2 du1 du2
                generalize wc = W5 at *
                go_wp2_with fail
                go_loopg [10] k (fun kx s10 wz => ∃ j : Nat, s10 = .int .i64 j ∧ j ≤ k ∧ k - j ≤ kx ∧ Aside (Gr W5 wz))
                case atStart => exact ⟨0, rfl, by omega, by omega, Ke.refl _ _⟩
                case round =>
                  obtain ⟨j, rfl, hjk, hjx, GG⟩ := hrel
                  by_cases hj : j < k
                  · have hjz : (j : Int) < (k : Int) := by omega
                    have hjnz : (j : Int) < (n : Int) := by omega
                    obtain ⟨g1, e1⟩ := S1.out (by omega)
                    subst e1
                    obtain ⟨g, off, rfl, x0, x1, x2⟩ := (P5.out.mr.gr GG.out).cells (j := j) (by omega)
                    have y := gcell GG.out (RR.out.cell j (by omega))
                    have ey : idc ((A.take k).map ky) j = .int .i64 (A.getD j default).i := by
                      unfold idc
                      rw [List.getD_eq_getElem?_getD, List.getElem?_map, List.getElem?_take_of_lt hj, List.getElem?_eq_getElem (by omega), List.getD_eq_getElem?_getD, List.getElem?_eq_getElem (by omega)]
                      rfl
                    rw [ey] at y
                    generalize (A.getD j default).i = mi at *
                    clear x0 x1 ey
                    go_wp2_with fail
                    go_region
                    all_goals
                      go_wp2_with fail
                      go_roundg (k - (j + 1))
                      case measure => omega
                      case rel => exact ⟨j + 1, by go_num, by omega, Nat.le_refl _, GG.out.drew⟩
                  · have hjz : ¬ (j : Int) < (k : Int) := by omega
                    have PE := Lib.hid (P5.out.gr GG.out)
                    have hkc : (k : Int) ≤ (cap : Int) := by omega
                    have hkz : (k : Int) ≤ (n : Int) := by omega
                    have hk0 : (0 : Int) ≤ (k : Int) := by omega
                    rcases P5.out.mr.at_ with ⟨rfl, hcap⟩ | ⟨g, off, rfl, _⟩
                    · obtain rfl : cap = 0 := hcap
                      obtain rfl : n = 0 := by omega
                      obtain rfl : k = 0 := by omega
                      go_wp2_with fail
                      go_meet
                      exact ⟨c, F4, A.drop 0, none, 0, 0, rfl, PE.out.cl, by rw [List.drop_zero]; exact PE.out.mr, by omega, by omega⟩
                    · obtain ⟨A2, hA2, hadd⟩ := slice_at g off cap k n hkn hnc
                      have MD := Lib.hid (mr_drop PE.out.mr k hkn A2 hA2)
                      go_wp2_with fail
                      go_meet
                      exact ⟨c, F4, A.drop k, _, _, _, rfl, PE.out.cl, MD.out, by omega, by omega⟩
          · by_cases g5 : od = 5
            · obtain rfl : od = 5 := g5
              have hAl := P0.out.mr.len
              have hnc := P0.out.mr.nc
              go_upto_block 9 with fail
              go_cut [11] (fun s11 wx => Bd W (keepD id A) s11 wx)
              case first =>
                as_aux_lemma =>
                  go_wp2_with fail
                  go_loopg [11, 12] n (fun kx s11 s12 wz => ∃ j : Nat, s12 = .int .i64 j ∧ j ≤ n ∧ n - j ≤ kx ∧ Aside (Bd W (keepD id (A.take j)) s11 wz))
                  case atStart => exact ⟨0, rfl, by omega, by omega, bd_start W⟩
                  case round =>
                    obtain ⟨j, rfl, hjn, hjx, RI⟩ := hrel
                    have P1 := Lib.hid (P0.out.gr RI.out.gr)
                    by_cases hj : j < n
                    · have hjz : (j : Int) < (n : Int) := by omega
                      obtain ⟨g, off, rfl, x0, x1, x2⟩ := P1.out.mr.cells (j := j) hj
                      have y2 := P1.out.b2
                      simp only at y2
                      by_cases l1 : (A.getD j default).i = id
                      · have rn := RI.out
                        rw [← keepD_no (by omega) l1] at rn
                        have RN := Lib.hid rn
                        clear rn
                        generalize (A.getD j default).i = mi at *
                        have hl1 : (mi != id) = false := by simp [l1]
                        clear l1
                        go_wp2_with fail
                        go_region
                        all_goals
                          go_wp2_with fail
                          go_roundg (n - (j + 1))
                          case measure => omega
                          case rel => exact ⟨j + 1, by go_num, by omega, Nat.le_refl _, RN.out.next (Ke.refl _ _).drew⟩
                      · have hlk : (keepD id (A.take j)).length ≤ 1000 := by
                          have h1 : (keepD id (A.take j)).length ≤ (A.take j).length := List.length_filter_le _ _
                          simp at h1
                          omega
                        obtain ⟨v', w9, hr9, rn9⟩ := ap2 (RI.out.next (((Ke.refl _ wr).alloc (.cells #[.int .i64 (A.getD j default).o, .int .i64 (A.getD j default).t, .int .i64 (A.getD j default).i] 27)).drew)) hlk (A.getD j default) wr.heap.size (heap_a wr _)
                        rw [← keepD_yes (by omega) l1] at rn9
                        generalize (A.getD j default).i = mi at *
                        generalize (A.getD j default).o = mo at *
                        generalize (A.getD j default).t = mt at *
                        have hl1 : (mi != id) = true := by simp [l1]
                        have HR := Lib.hid hr9
                        have RN := Lib.hid rn9
                        clear l1 hr9 rn9
                        go_wp2_with fail
                        go_region
                        all_goals
                          go_wp2_with (at_builtin; refine Lib.wpList_append_run _ rfl _ _ 22 22 rfl _ _ rfl rfl _ _ (HR.out _) ?_)
                          go_roundg (n - (j + 1))
                          case measure => omega
                          case rel => exact ⟨j + 1, by go_num, by omega, Nat.le_refl _, RN.out⟩
                    · have hjz : ¬ (j : Int) < (n : Int) := by omega
                      go_wp2_with fail
                      go_meet
                      have rn := RI.out
                      rw [List.take_of_length_le (by omega)] at rn
                      exact rn
              case rest =>
                have RF := Lib.hid hcut
                have P1 := Lib.hid (P0.out.gr hcut.gr)
                have b2 := P1.out.b2
                simp only at b2
                have DD := law_drop P1.out.cl (by omega) (by rw [List.length_map]; omega) id hwf.out
                rw [rest_map, List.length_map, List.length_map, hAl] at DD
                have C := Lib.hid DD
                have hkl : (keepD id A).length ≤ n := by rw [← hAl]; exact List.length_filter_le _ _
                obtain ⟨a1, cap1, e1, s1⟩ := hcut.row.sl
                subst e1
                have mb := mr_of_bd RF.out P0.out.cl
                obtain ⟨m, hm⟩ : ∃ m, (keepD id A).length = m := ⟨_, rfl⟩
                rw [hm] at hkl C mb
                rw [hm]
                have MB := Lib.hid mb
                clear mb RF
                obtain ⟨z, hz⟩ : ∃ z, n - m = z := ⟨_, rfl⟩
                rw [hz] at C
                have ez : (n : Int) - (m : Int) = (z : Int) := by omega
                clear hcut s1 P0 DD
                generalize wc = W5 at *
                go_wp2_with fail
                refine C.out.mono ?_
                rintro e w6 ⟨rfl, F6, c6, s6⟩
                have P6 := Lib.hid (P1.out.next c6 s6)
                have RE := Lib.hid (MB.out.sv s6)
                clear C c6 s6 b2 P1 MB
                go_wp2_with fail
                go_meet
                exact ⟨c, F6, keepD id A, _, _, _, rfl, P6.out.cl, RE.out, by omega, by omega⟩
            · have e0 : (od == 0) = false := by simp; omega
              have e1 : (od == 1) = false := by simp; omega
              have e2 : (od == 2) = false := by simp; omega
              have e3 : (od == 3) = false := by simp; omega
              have e4 : (od == 4) = false := by simp; omega
              have e5 : (od == 5) = false := by simp; omega
              clear gP g4 g5
              go_wp2_with fail
              go_meet
              exact ⟨c, F, A, a, n, cap, rfl, P0.out.cl, P0.out.mr, by omega, by omega⟩
      case rest =>
        as_aux_lemma =>
          obtain ⟨c', F', A', a', n', cap', rfl, CL', MR', hc', hn'⟩ := hcut
          have NX := Lib.hid (law_next CL')
          have CC := Lib.hid CL'
          have MM := Lib.hid MR'
          have hAl := MR'.len
          clear CL' MR' P0
          generalize wc = W5 at *
          go_wp2_with fail
          refine NX.out.mono ?_
          rintro e w6 ⟨rfl, g6⟩
          have C6 := CC.out.gr g6
          have M6 := MM.out.gr g6
          have LN := law_len C6
          rw [List.length_map, hAl] at LN
          have CL6 := Lib.hid C6
          have ML6 := Lib.hid M6
          have LL := Lib.hid LN
          clear NX g6 C6 LN CC MM
          by_cases h0 : 0 < n'
          · obtain ⟨d, R, rfl⟩ : ∃ d R, A' = d :: R := by
              cases A' with
              | nil => simp at hAl; omega
              | cons d R => exact ⟨d, R, rfl⟩
            rw [show nx ((d :: R).map ky) = d.t from rfl, show nb ((d :: R).map ky) = true from rfl]
            obtain ⟨g, off, rfl, x0, x1, x2⟩ := M6.cells (j := 0) h0
            rw [show (d :: R).getD 0 default = d from rfl] at x1
            simp only [Nat.zero_mul, Nat.add_zero] at x1
            have hz : (0 : Int) < (n' : Int) := by omega
            have hd : decide ((n' : Int) > 0) = true := by simp; omega
            have hd' : decide (0 < n') = true := by simp; omega
            clear M6 x0 x2
            go_wp2_with fail
            refine LL.out.mono ?_
            rintro e w7 ⟨rfl, hw⟩
            obtain rfl := hw.symm
            clear hw LL
            go_wp2_with fail
            go_roundg (N - (i + 1))
            case measure => omega
            case rel => exact ⟨i + 1, by go_num, by omega, Nat.le_refl _, c', F', _, _, _, _, rfl, CL6.out, ML6.out, hc', hn'⟩
          · obtain rfl : n' = 0 := by omega
            obtain rfl : A' = [] := List.eq_nil_of_length_eq_zero hAl
            rw [show nx (([] : List Dd).map ky) = 0 from rfl, show nb (([] : List Dd).map ky) = false from rfl]
            clear M6
            go_wp2_with fail
            refine LL.out.mono ?_
            rintro e w7 ⟨rfl, hw⟩
            obtain rfl := hw.symm
            clear hw LL
            go_wp2_with fail
            go_roundg (N - (i + 1))
            case measure => omega
            case rel => exact ⟨i + 1, by go_num, by omega, Nat.le_refl _, c', F', _, _, _, _, rfl, CL6.out, ML6.out, hc', hn'⟩
    · have hltz : ¬ (i : Int) < (N : Int) := by omega
      obtain ⟨c, F, A, a, n, cap, rfl, CL0, MR0, hci, hni⟩ := D.out
      have BE := Lib.hid CL0.below
      clear D CL0 MR0
      go_wp2
      go_ret
      exact ⟨rfl, BE.out⟩
end Go.Proofs.Ytkpflhlalpkgnaa
