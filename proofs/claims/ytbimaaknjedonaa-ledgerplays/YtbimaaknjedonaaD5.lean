/- The law LedgerPlays walked. -/
import Derived.Test.YtbimaaknjedonaaD4
import Derived.Deep.CutBlock
namespace Go.Proofs.Ytbimaaknjedonaa
open Go.RowKit Go.Lib Go.Maps
set_option linter.unusedVariables false

theorem cells_three (w : World) (id e p : Int) : ∀ j, j < 1 * 3 → (w.alloc (.cells #[.int .i64 id, .int .i64 e, .int .i64 p] 30)).cell? ((⟨w.heap.size, 0, none⟩ : Addr).add j) = some (dc [⟨id, e, p⟩] j) := fun j hj => by
  have e1 : (⟨w.heap.size, 0, none⟩ : Addr).add j = ⟨w.heap.size, j, none⟩ := by unfold Addr.add; split <;> simp_all
  rw [e1]
  rcases (show j = 0 ∨ j = 1 ∨ j = 2 by omega) with rfl | rfl | rfl <;> simp [go_sem, dc, cellD]
theorem slice_at0 (g cap k n : Nat) (hk : k ≤ n) (hn : n ≤ cap) : ∃ A2 : Addr, (if cap = k then some (⟨g, 0, none⟩ : Addr) else some ⟨g, k * 3, none⟩) = some A2 ∧ ∀ j, j < (n - k) * 3 → A2.add j = ⟨g, k * 3 + j, none⟩ := by
  obtain ⟨A2, h1, h2⟩ := slice_at g 0 cap k n hk hn
  exact ⟨A2, by simpa using h1, fun j hj => by have := h2 j hj; simpa using this⟩
/-- The inner loop. -/
def FndRel (W : World) (L : List Wt) (id : Int) (n : Nat) (s10 s11 : Value) (wz : World) : Prop := ∃ (j : Nat) (x : Int), s10 = .int .i64 x ∧ s11 = .int .i64 (j : Nat) ∧ j ≤ n ∧ AtP L id j x ∧ Gr W wz
set_option maxRecDepth 100000 in
set_option maxHeartbeats 20000000 in
theorem plays_walk (cores : Int) (b0 o0 N c0 : Nat) (q : Nat → Deed) (w : World) (hN : N ≤ 100) (r0 : DdsIn w b0 o0 N q) :
    Calls Try.prog 3 #[.int .i64 cores, .slice (some ⟨b0, o0, none⟩) N c0] w fun x w' => x = .returned (.bool true) ∧ Gr w w' := by
  have R0 := Lib.hid r0
  clear r0
  have d1 : decide ((100 : Int) < (N : Int)) = false := by simp; omega
  have d1' : ¬ (100 : Int) < (N : Int) := by omega
  obtain ⟨k, hk⟩ : ∃ k, min (max cores 1) 64 = k := ⟨_, rfl⟩
  have HCUT : Hid (cut cores = k) := hk
  have k0 : 1 ≤ k ∧ k ≤ 64 := by rw [← HCUT.out]; exact cut_bd cores
  go_enter Try.func3, Try.ntmps3
  go_wp2_with fail
  refine (awake8 _).mono ?_
  rintro x w1 ⟨rfl, g1⟩
  have G1 := Lib.hid g1
  clear g1
  go_wp2_with fail
  refine (new_any cores _).mono ?_
  rintro x w2 ⟨rfl, hw⟩
  subst hw
  have H := Lib.hid (HCUT.out ▸ ph_new G1.out cores)
  generalize w1.alloc (LO cores) = w2 at H ⊢
  generalize w1.heap.size = l at H ⊢
  clear hk
  go_wp2_with fail
  go_loopw [7, 8] (fun s7 s8 wr => PlRel w l k N s7 s8 wr) (fun _ s8 _ => N - (RowKit.intOf s8).toNat)
  case atStart => exact ⟨0, _, [], none, 0, rfl, rfl, by omega, by simp, H.out⟩
  case round =>
    obtain ⟨i, S, L, a, cap, rfl, rfl, hi, hL, hp⟩ := hrel
    have HP := Lib.hid hp
    clear hp H
    by_cases hlt : i < N
    · have q1 : decide ((i : Int) < (N : Int)) = true := by simp; omega
      have q2 : (i : Int) < (N : Int) := by omega
      obtain ⟨t0, t1, t2, t3⟩ := R0.out.gr HP.out.gr i hlt
      have WI := Lib.hid (q i).hi
      generalize (q i).o = od at t0
      generalize (q i).i = id at t1 WI
      generalize (q i).e = e at t2
      generalize (q i).p = p at t3
      obtain ⟨n, hn⟩ : ∃ n, L.length = n := ⟨_, rfl⟩
      have HN := Lib.hid hn
      rw [hn] at hL ⊢
      have n1 : n ≤ 100 := by omega
      clear hn
      go_upto_block 2 with fail
      clear t0 t1 t2 t3
      have PW := Lib.hid (HP.out.grow ((Ke.refl _ wr).alloc (.cells #[.int .i64 od, .int .i64 id, .int .i64 e, .int .i64 p] 28)))
      have BX : Hid (Bx (wr.alloc (.cells #[.int .i64 od, .int .i64 id, .int .i64 e, .int .i64 p] 28)) wr.heap.size od id e p) := ⟨by simp [go_sem], by simp [go_sem], by simp [go_sem], by simp [go_sem]⟩
      have NB : Hid (¬ S wr.heap.size) := fun z => by have := HP.out.led.lt z; omega
      rw [HN.out] at PW
      clear HP
      generalize wr.alloc (.cells #[.int .i64 od, .int .i64 id, .int .i64 e, .int .i64 p] 28) = W at PW BX ⊢
      generalize wr.heap.size = B at BX NB ⊢
      go_cut [10] (fun s10 wx => FndW W L id s10 wx)
      case first =>
        go_wp2_with fail
        go_loopw [10, 11] (fun s10 s11 wz => FndRel W L id n s10 s11 wz) (fun _ s11 _ => n - (RowKit.intOf s11).toNat)
        case atStart => exact ⟨0, -1, rfl, rfl, by omega, AtP.start L id, Ke.refl _ _⟩
        case round =>
          obtain ⟨j, x, rfl, rfl, hj, hat, g⟩ := hrel
          have AT := Lib.hid hat
          have G := Lib.hid g
          have xb := hat.bd
          clear hat g
          by_cases hjn : j < n
          · have q3 : decide ((j : Int) < (n : Int)) = true := by simp; omega
            have q4 : (j : Int) < (n : Int) := by omega
            have rw_ := (PW.out.grow G.out).row
            rw [← HN.out] at rw_
            obtain ⟨a', cap', ev, mr⟩ := mr_of_row rw_
            cases ev
            obtain ⟨g, off, rfl, c0', _, _⟩ := mr.cells (show j < L.length by rw [HN.out]; exact hjn)
            have b1 := (BX.out.gr G.out).b1
            clear rw_ mr
            by_cases he : (L.getD j default).id = id
            · have A1 := Lib.hid (AtP.hit he)
              rw [he] at c0'
              clear he
              go_upto_region 18 with fail
              go_region
              go_wp2
              go_roundw
              case rel => exact ⟨j + 1, (j : Int), rfl, rfl, by omega, A1.out, G.out.drew⟩
              case measure => simp [RowKit.intOf]; omega
            · have A1 := Lib.hid (AT.out.miss he)
              generalize (L.getD j default).id = z at c0' he
              have q5 : (z == id) = false := by simpa using he
              clear he
              go_upto_region 18 with fail
              go_region
              go_wp2
              go_roundw
              case rel => exact ⟨j + 1, x, rfl, rfl, by omega, A1.out, G.out.drew⟩
              case measure => simp [RowKit.intOf]; omega
          · have q3 : decide ((j : Int) < (n : Int)) = false := by simp; omega
            have q4 : ¬ (j : Int) < (n : Int) := by omega
            obtain rfl : j = n := by omega
            go_wp2
            go_meet
            exact ⟨x, rfl, by rw [HN.out]; exact AT.out, G.out⟩
      case rest =>
        obtain ⟨x, rfl, hat, g⟩ := hcut
        have P3 := Lib.hid (PW.out.grow g)
        have B3 := Lib.hid (BX.out.gr g)
        have AT := Lib.hid hat
        have xb := hat.bd
        rw [HN.out] at xb
        obtain ⟨cv, hcv⟩ : ∃ cv, canV k L e p = cv := ⟨_, rfl⟩
        have CV := Lib.hid hcv
        have MR : Hid (∀ W', Gr W W' → Mr W' a n cap L) := fun W' g' => by
          have rw_ := (PW.out.grow g').row
          rw [← HN.out] at rw_
          obtain ⟨a', cap', ev, mr⟩ := mr_of_row rw_
          cases ev
          rw [HN.out] at mr
          exact mr
        have CC := Lib.hid (rcan_any (MR.out _ g) P3.out.led.ok (by rw [HN.out]; omega) e p cv hcv)
        have b2 := B3.out.b2
        have b3 := B3.out.b3
        clear hat g hcv PW BX
        go_wp2_with fail
        refine CC.out.mono ?_
        rintro y w4 ⟨rfl, g4⟩
        have P4 := Lib.hid (P3.out.grow g4)
        have B4 := Lib.hid (B3.out.gr g4)
        clear g4 P3 B3 CC b2 b3 MR
        have b0' := B4.out.b0
        go_upto_block 4 with fail
        go_cut [7] (fun s7 wx => DidW w l k i s7 wx)
        case first =>
          by_cases gP : od = 0 ∨ od = 1 ∨ od = 2 ∨ od = 3
          · go_upto_if 59 with fail
            go_cut [59] (fun s59 wx => s59 = .bool true ∧ wx = w4)
            case first =>
              clear P4 B4 AT CV
              rcases gP with rfl | rfl | rfl | rfl
              all_goals
                go_wp2
                go_meet
                exact ⟨rfl, rfl⟩
            case rest =>
              obtain ⟨rfl, hw⟩ := hcut
              obtain rfl := hw.symm
              clear hw gP
              have b1 := B4.out.b1
              have b2 := B4.out.b2
              have b3 := B4.out.b3
              clear b0'
              by_cases hx : 0 ≤ x
              · have dx : decide (0 ≤ x) = true := by simp [hx]
                by_cases h2 : cv = 2
                · have e2 : (cv != 2) = false := by simp [h2]
                  have AV : Hid (addV k L id e p = 2) := by show _ = _; rw [addV_at AT.out, CV.out, if_neg (fun q => q.2 h2)]; exact h2
                  subst h2
                  have CA := Lib.hid (add_any P4.out.led id e p 2 WI.out (AV.out))
                  rw [if_neg (by omega)] at CA
                  go_wp2_with fail
                  refine CA.out.mono ?_
                  rintro y w5 ⟨rfl, S5, led5, ke5, sv5⟩
                  have P5 := Lib.hid (P4.out.op led5 ke5 sv5)
                  have B5 := Lib.hid (B4.out.ke ke5 NB.out)
                  clear CA led5 ke5 sv5 P4 B4 b1 b2 b3
                  go_wp2
                  go_meet
                  exact did_of P5.out (by rw [HN.out]; omega)
                · have e2 : (cv != 2) = true := by simpa using h2
                  have e3 : ¬ cv = 2 := h2
                  have AV : Hid (addV k L id e p = 4) := by show _ = _; rw [addV_at AT.out, CV.out, if_pos ⟨hx, h2⟩]
                  have CA := Lib.hid (add_any P4.out.led id e p 4 WI.out (AV.out))
                  rw [if_neg (by omega)] at CA
                  go_wp2_with fail
                  refine CA.out.mono ?_
                  rintro y w5 ⟨rfl, S5, led5, ke5, sv5⟩
                  have P5 := Lib.hid (P4.out.op led5 ke5 sv5)
                  have B5 := Lib.hid (B4.out.ke ke5 NB.out)
                  clear CA led5 ke5 sv5 P4 B4 b1 b2 b3
                  go_wp2
                  go_meet
                  exact did_of P5.out (by rw [HN.out]; omega)
              · have dx : decide (0 ≤ x) = false := by simp; omega
                have AV : Hid (addV k L id e p = cv) := by show _ = _; rw [addV_at AT.out, CV.out, if_neg (fun q => hx q.1)]
                by_cases h0 : cv = 0
                · subst h0
                  have CA := Lib.hid (add_any P4.out.led id e p 0 WI.out (AV.out))
                  rw [if_pos rfl] at CA
                  go_wp2_with fail
                  refine CA.out.mono ?_
                  rintro y w5 ⟨rfl, S5, led5, ke5, sv5⟩
                  have P5 := Lib.hid (P4.out.op led5 ke5 sv5)
                  have B5 := Lib.hid (B4.out.ke ke5 NB.out)
                  clear CA led5 ke5 sv5 P4 B4 b1 b2 b3
                  have b1 := B5.out.b1
                  have b2 := B5.out.b2
                  have b3 := B5.out.b3
                  have P6 := Lib.hid (P5.out.grow ((Ke.refl _ w5).alloc (.cells #[.int .i64 id, .int .i64 e, .int .i64 p] 30)))
                  have rw6 := P6.out.row
                  have g0 := P6.out.gr.size
                  obtain ⟨v', X, hr, ap⟩ := app_wt (w5.alloc (.cells #[.int .i64 id, .int .i64 e, .int .i64 p] 30)) w.heap.size (.slice a n cap) L [⟨id, e, p⟩] rw6 g0 (by rw [HN.out]; simp; omega) ⟨w5.heap.size, 0, none⟩ 1 1 rfl (cells_three w5 id e p)
                  have HR : Hid (∀ ty, (Builtin.append_ #[26, 26] ty #[.slice a n cap, .slice (some ⟨w5.heap.size, 0, none⟩) 1 1]).run Try.prog (w5.alloc (.cells #[.int .i64 id, .int .i64 e, .int .i64 p] 30)) = .ok v' X) := hr
                  have P7 := Lib.hid (P6.out.push ap)
                  clear rw6 g0 hr ap P5 P6
                  go_wp2_with (at_builtin; (refine Lib.wpList_append_run _ rfl (.tmp 82) (.tmp 90) 26 26 rfl (.slice a n cap) (.slice (some ⟨w5.heap.size, 0, none⟩) 1 1) rfl rfl v' X ?_ ?_); (· exact HR.out _))
                  go_meet
                  exact did_of P7.out (by simp; rw [HN.out]; omega)
                · have e0 : (cv == 0) = false := by simpa using h0
                  have e1 : ¬ cv = 0 := h0
                  have CA := Lib.hid (add_any P4.out.led id e p cv WI.out AV.out)
                  rw [if_neg h0] at CA
                  go_wp2_with fail
                  refine CA.out.mono ?_
                  rintro y w5 ⟨rfl, S5, led5, ke5, sv5⟩
                  have P5 := Lib.hid (P4.out.op led5 ke5 sv5)
                  clear CA led5 ke5 sv5 P4 B4 b1 b2 b3
                  go_wp2
                  go_meet
                  exact did_of P5.out (by rw [HN.out]; omega)
          · have f0 : (od == 0) = false := by simp; omega
            have f1 : (od == 1) = false := by simp; omega
            have f2 : (od == 2) = false := by simp; omega
            have f3 : (od == 3) = false := by simp; omega
            by_cases g4 : od = 4
            · subst g4
              clear gP f0 f1 f2 f3
              have b1 := B4.out.b1
              have CD := Lib.hid (drop_any P4.out.led id WI.out (decide (0 ≤ x)) AT.out.any)
              have IDS := Lib.hid P4.out.led.ok.ids
              by_cases hx : 0 ≤ x
              · have dx : decide (0 ≤ x) = true := by simp [hx]
                rw [dx] at CD
                obtain ⟨c, hxc⟩ := Int.eq_ofNat_of_zero_le hx
                subst hxc
                have hcn : c < n := by omega
                have HC : Hid ((L.getD c default).id = id) := by
                  rcases AT.out with ⟨z, _⟩ | ⟨c', z, _, z2⟩
                  · omega
                  · obtain rfl : c = c' := by omega
                    exact z2
                go_wp2_with fail
                refine CD.out.mono ?_
                rintro y w5 ⟨rfl, led5, ke5⟩
                have P5 := Lib.hid (P4.out.op led5 ke5 (Sv.refl S w4))
                clear CD led5 ke5 P4 B4 b1
                have rw5 := P5.out.row
                rw [HN.out] at rw5
                rcases rw5.shape with ⟨_, z⟩ | ⟨g, cap', ev, _, _, hnc, hcm⟩
                · omega
                · cases ev
                  unfold maxLen at hcm
                  obtain ⟨a2, cap2, ev, mr⟩ := mr_of_row P5.out.row
                  rw [HN.out] at ev mr
                  cases ev
                  obtain ⟨c1, hc1⟩ : ∃ c1, c1 = c + 1 := ⟨_, rfl⟩
                  have ew : IntKind.i64.wrap ((c : Int) + 1) = (c1 : Int) := by rw [IntKind.wrap_i64]; omega
                  have hc1z : (c1 : Int) ≤ (n : Int) := by omega
                  have hc1j : c1 ≤ n := by omega
                  have hczz : (c : Int) ≤ (cap : Int) := by omega
                  have hczn : c ≤ cap := by omega
                  obtain ⟨A2, hA2, hadd⟩ := slice_at0 g cap c1 n hc1j hnc
                  have g1 : Gr w5 (w5.drew.alloc (.cells #[] 30)) := (Ke.refl _ w5).drew.alloc _
                  obtain ⟨u1, X1, hr1, bb1⟩ := ap1 mr c (by omega) (by omega) (w5.drew.alloc (.cells #[] 30)) g1 w5.heap.size (Nat.le_refl _) (heap_alloc_new w5.drew _)
                  obtain ⟨u2, X2, hr2, bb2⟩ := ap3 mr c1 hc1j (by omega) bb1.bd (by simp; omega) (.slice (some A2) (n - c1) (cap - c1)) (.inr ⟨g, 0, A2, cap - c1, rfl, rfl, fun j hj => by rw [hadd j hj]; simp⟩)
                  have HR1 := Lib.hid hr1
                  have HR2 := Lib.hid hr2
                  have P6 := Lib.hid (P5.out.anew bb2)
                  have ER := Lib.hid (remL_at IDS.out (show c < L.length by rw [HN.out]; exact hcn) HC.out)
                  rw [hc1, ← ER.out] at P6
                  have LR : Hid ((remL id L).length ≤ i + 1) := by
                    rw [Hid, ER.out]
                    have := HN.out
                    simp
                    omega
                  clear rw5 mr hadd g1 hr1 hr2 bb1 bb2 P5 hc1
                  go_upto_region 36 with fail
                  go_region_law (first | refine step_append_run rfl (.tmp 103) (.tmp 106) 26 rfl _ _ rfl rfl _ _ HR1.out ?_ | refine step_append_run rfl (.tmp 107) (.tmp 111) 26 rfl _ _ rfl rfl _ _ HR2.out ?_)
                  go_wp2_with fail
                  go_meet
                  exact did_of P6.out LR.out
              · have dx : decide (0 ≤ x) = false := by simp; omega
                rw [dx] at CD
                have ER : Hid (remL id L = L) := by
                  refine remL_out (any_no ?_)
                  rw [AT.out.any]
                  exact dx
                go_wp2_with fail
                refine CD.out.mono ?_
                rintro y w5 ⟨rfl, led5, ke5⟩
                rw [ER.out] at led5
                have P5 := Lib.hid (P4.out.op led5 ke5 (Sv.refl S w4))
                clear CD led5 ke5 P4 B4 b1
                go_wp2
                go_meet
                exact did_of P5.out (by rw [HN.out]; omega)
            · have f4 : (od == 4) = false := by simpa using g4
              by_cases g5 : od = 5
              · subst g5
                clear gP g4 f0 f1 f2 f3 f4
                have b2 := B4.out.b2
                have b3 := B4.out.b3
                have CC := Lib.hid (can_any P4.out.led e p cv CV.out)
                go_wp2_with fail
                refine CC.out.mono ?_
                rintro y w5 ⟨rfl, g5⟩
                have P5 := Lib.hid (P4.out.grow g5)
                clear CC g5 P4 B4 b2 b3
                go_wp2
                go_meet
                exact did_of P5.out (by rw [HN.out]; omega)
              · have f5 : (od == 5) = false := by simpa using g5
                have n0 : ¬ od = 0 := by omega
                have n1 : ¬ od = 1 := by omega
                have n2 : ¬ od = 2 := by omega
                have n3 : ¬ od = 3 := by omega
                clear gP
                go_wp2
                go_meet
                exact did_of P4.out (by rw [HN.out]; omega)
        case rest =>
          obtain ⟨S', L', a', cap', rfl, hl', ph'⟩ := hcut
          have P5 := Lib.hid ph'
          obtain ⟨n', hn'⟩ : ∃ n', L'.length = n' := ⟨_, rfl⟩
          have HN' := Lib.hid hn'
          rw [hn'] at hl' ⊢
          obtain ⟨Ns, Ds, Ms, tt⟩ := Tot.of L'
          have TT := Lib.hid tt
          have OK := Lib.hid ph'.led.ok
          have MR : Hid (∀ W', PH w W' S' l k L' L' (.slice a' L'.length cap') → Mr W' a' n' cap' L') := fun W' h => by
            obtain ⟨a2, cap2, ev, mr⟩ := mr_of_row h.row
            cases ev
            rw [HN'.out] at mr
            exact mr
          have ML : Hid (lcmC L' = Ms) := by
            show _ = _
            unfold lcmC
            rw [if_pos OK.out.lcm]
            exact TT.out.m
          clear ph' hn' tt P4 B4 b0' AT CV NB
          have C1 := Lib.hid (len_any' P5.out.led HN'.out)
          go_wp2_with fail
          refine C1.out.mono ?_
          rintro y w5 ⟨rfl, hw⟩
          subst hw
          clear C1
          have C2 := Lib.hid (sum_any' P5.out.led TT.out)
          go_wp2_with fail
          refine C2.out.mono ?_
          rintro y w6 ⟨rfl, g6⟩
          have P6 := Lib.hid (P5.out.grow g6)
          clear C2 g6 P5
          have C3 := Lib.hid (rsum_any (MR.out _ P6.out) OK.out.may (by rw [HN'.out]; omega) OK.out.lcm TT.out.n TT.out.d)
          go_wp2_with fail
          refine C3.out.mono ?_
          rintro y w7 ⟨rfl, g7⟩
          have P7 := Lib.hid (P6.out.grow g7)
          clear C3 g7 P6
          have C4 := Lib.hid (lcm_any' P7.out.led TT.out)
          go_wp2_with fail
          refine C4.out.mono ?_
          rintro y w8 ⟨rfl, g8⟩
          have P8 := Lib.hid (P7.out.grow g8)
          clear C4 g8 P7
          have C5 := Lib.hid (rlcm_any (MR.out _ P8.out) OK.out.may (by rw [HN'.out]; omega))
          rw [ML.out] at C5
          go_wp2_with fail
          refine C5.out.mono ?_
          rintro y w9 ⟨rfl, g9⟩
          have P9 := Lib.hid (P8.out.grow g9)
          clear C5 g9 P8
          go_wp2
          go_roundw
          case rel => exact ⟨i + 1, S', L', a', cap', by rw [HN'.out], rfl, by omega, by rw [HN'.out]; exact hl', P9.out⟩
          case measure => simp [RowKit.intOf]; omega
    · have q1 : decide ((i : Int) < (N : Int)) = false := by simp; omega
      have q2 : ¬ (i : Int) < (N : Int) := by omega
      have GG := Lib.hid HP.out.gr
      clear HP
      go_wp2
      go_ret
      exact ⟨rfl, GG.out⟩
end Go.Proofs.Ytbimaaknjedonaa
