/- RingKeeps walked. -/
import Derived.Test.YtgnfmmoanmhgpaaE1
namespace Go.Proofs.Ytgnfmmoanmhgpaa
open Go.RowKit Go.Lib
set_option linter.unusedVariables false

/-- What is put. -/
def keE (q : Nat → Pc) (s : Nat) : En := ⟨s, (s : Int) * 3, q s⟩

set_option maxRecDepth 100000 in
set_option maxHeartbeats 1600000 in
theorem keeps_big (N : Int) (a : Option Addr) (n c0 : Nat) (ask : Int) (w : World) (h : 300 < n) : Calls Try.prog 3 #[.int .i64 N, .slice a n c0, .int .i64 ask] w fun e w' => e = .returned (.bool true) ∧ Gr w w' := by
  have AW := Lib.hid (awake_any w)
  have d1 : decide ((n : Int) > 300) = true := by simp; omega
  have d2 : decide (300 < n) = true := by simp; omega
  clear h
  go_enter Try.func3, Try.ntmps3
  go_wp2_with fail
  refine AW.out.mono ?_
  rintro e w1 ⟨rfl, g1⟩
  have G1 := Lib.hid g1
  clear g1 AW
  go_wp2
  go_ret
  exact ⟨rfl, G1.out⟩

set_option maxRecDepth 100000 in
set_option maxHeartbeats 1600000 in
theorem keeps_mid (N : Int) (a : Option Addr) (n c0 : Nat) (ask : Int) (w : World) (h : ¬ 300 < n) (hN : 100 < N) (hN2 : N < 4096) : Calls Try.prog 3 #[.int .i64 N, .slice a n c0, .int .i64 ask] w fun e w' => e = .returned (.bool true) ∧ Gr w w' := by
  have AW := Lib.hid (awake_any w)
  have d1 : decide ((n : Int) > 300) = false := by simp; omega
  have d2 : decide (300 < n) = false := by simp; omega
  have d3 : decide (N > 100) = true := decide_eq_true hN
  have d4 : decide (100 < N) = true := decide_eq_true hN
  have d5 : decide (N < 4096) = true := decide_eq_true hN2
  clear h hN hN2
  go_enter Try.func3, Try.ntmps3
  go_wp2_with fail
  refine AW.out.mono ?_
  rintro e w1 ⟨rfl, g1⟩
  have G1 := Lib.hid g1
  clear g1 AW
  go_wp2
  go_ret
  exact ⟨rfl, G1.out⟩

theorem frm {tI ask : Int} {f n cnt : Nat} (ht : max (f : Int) ask = tI) (hc : (cnt : Int) = max 0 ((n : Int) - tI)) (hn : n ≤ 300) (j : Nat) (hj : j < cnt) :
    ∃ u : Nat, tI.toNat + j = u ∧ u < n ∧ 0 < n ∧ tI + (j : Int) = (u : Int) ∧ (u : Int) < (n : Int) ∧ ((0 : Int) ≤ (u : Int) ∧ (u : Int) < (n : Int)) ∧ IntKind.i64.wrap (u : Int) = u ∧ wrap64 (u : Int) = u := by
  refine ⟨tI.toNat + j, rfl, by omega, by omega, by omega, by omega, by omega, ?_, ?_⟩
  · rw [IntKind.wrap_i64]; omega
  · unfold wrap64; omega

set_option maxRecDepth 100000 in
set_option maxHeartbeats 8000000 in
theorem keeps_walk (N : Int) (a : Option Addr) (n c0 : Nat) (ask : Int) (q : Nat → Pc) (w : World) (hn : ¬ 300 < n) (hN : ¬ (100 < N ∧ N < 4096)) (hask : -9223372036854775808 ≤ ask ∧ ask ≤ 9223372036854775807) (hq : PcsAt w a n q) :
    Calls Try.prog 3 #[.int .i64 N, .slice a n c0, .int .i64 ask] w fun e w' => e = .returned (.bool true) ∧ Gr w w' := by
  have AW := Lib.hid (awake_any w)
  have HQ := Lib.hid hq
  have HN := Lib.hid hN
  have HA := Lib.hid hask
  have d1 : decide ((n : Int) > 300) = false := by simp; omega
  have d2 : decide (300 < n) = false := by simp; omega
  have bn : n ≤ 300 := by omega
  obtain ⟨mm, hmm⟩ : ∃ m, (if N < 0 then 0 else N) = m := ⟨_, rfl⟩
  obtain ⟨k, hk⟩ : ∃ k : Nat, (k : Int) = min (max N 0) 4096 := ⟨(min (max N 0) 4096).toNat, by omega⟩
  have mk : (if 4096 < mm then 4096 else mm) = (k : Int) := by split at hmm <;> split <;> omega
  have k6 : k ≤ 4096 := by omega
  have CNH := Lib.hid (fun w1 (g : Gr w w1) => rw_new g N k hk (keE q))
  clear hq hN hask hn hk
  go_enter Try.func3, Try.ntmps3
  go_wp2_with fail
  refine AW.out.mono ?_
  rintro e w1 ⟨rfl, g1⟩
  have CN := Lib.hid (CNH.out w1 g1)
  clear g1 AW CNH
  go_upto_region 3 with fail
  go_cut [29] (fun s29 wx => s29 = .bool false ∧ wx = w1)
  case first =>
    by_cases h1 : 100 < N
    · have d3 : decide (N > 100) = true := decide_eq_true h1
      have d4 : decide (100 < N) = true := decide_eq_true h1
      have d5 : decide (N < 4096) = false := decide_eq_false (fun h => HN.out ⟨h1, h⟩)
      clear h1
      go_wp2_with fail
      go_meet
      exact ⟨rfl, rfl⟩
    · have d3 : decide (N > 100) = false := decide_eq_false h1
      have d4 : decide (100 < N) = false := decide_eq_false h1
      clear h1
      go_wp2_with fail
      go_meet
      exact ⟨rfl, rfl⟩
  case rest =>
    obtain ⟨rfl, rfl⟩ := hcut
    clear d1 d2
    go_wp2_with fail
    refine CN.out.mono ?_
    rintro e w2 ⟨p, rfl, h2⟩
    have H2 := Lib.hid h2
    clear h2 CN hmm mk
    have K6 := Lib.hid k6
    clear k6
    go_wp2_with fail
    go_loopg [9] n (fun kx s9 wr => ∃ i : Nat, s9 = .int .i64 (i : Int) ∧ i ≤ n ∧ n - i ≤ kx ∧ Aside (RW w wr p k i (keE q)))
    case atStart => exact ⟨0, rfl, by omega, by omega, H2.out⟩
    case round =>
      clear H2
      obtain ⟨i, rfl, hi, hix, D⟩ := hrel
      by_cases hlt : i < n
      · have e0 : decide ((i : Int) < (n : Int)) = true := by simp; omega
        have e1 : decide (i < n) = true := by simp; omega
        have hltz : (i : Int) < (n : Int) := by omega
        have bz : (0 : Int) ≤ (i : Int) ∧ (i : Int) < (n : Int) := by omega
        obtain ⟨b0, o0, rfl, hb0, hc⟩ := HQ.out (by omega)
        have BC : Hid (∀ W : World, Gr w W → ∀ j, j < 8 → W.cell? ⟨b0, o0 + i * 8 + j, none⟩ = some (cellE ⟨0, 0, q i⟩ (j + 2))) := Lib.hid (fun W g j hj => (g.cell (p := ⟨b0, o0 + i * 8 + j, none⟩) hb0 (fun e => e)).trans (hc i hlt j hj))
        have t0 := BC.out wr D.out.gr 0 (by omega)
        have t1 := BC.out wr D.out.gr 1 (by omega)
        have t2 := BC.out wr D.out.gr 2 (by omega)
        have t3 := BC.out wr D.out.gr 3 (by omega)
        have t4 := BC.out wr D.out.gr 4 (by omega)
        have t5 := BC.out wr D.out.gr 5 (by omega)
        have t6 := BC.out wr D.out.gr 6 (by omega)
        have t7 := BC.out wr D.out.gr 7 (by omega)
        simp only [cellE, Nat.add_zero] at t0 t1 t2 t3 t4 t5 t6 t7
        obtain ⟨q3, hq3⟩ : ∃ x, (i : Int) * 3 = x := ⟨_, rfl⟩
        have wq : wrap64 q3 = q3 := by unfold wrap64; omega
        have C1 := Lib.hid (rw_put D.out (by omega) (c := q3) (x := q i) (by unfold keE; rw [hq3]) (v := pcV (q i)) rfl)
        clear hc BC D
        go_wp2_with fail
        refine C1.out.mono ?_
        rintro e w3 ⟨rfl, h3⟩
        have H3 := Lib.hid h3
        have C3 := Lib.hid (rw_nextv h3 (v := (i : Int) + 1) (by omega))
        clear h3 C1 t0 t1 t2 t3 t4 t5 t6 t7 wq hq3
        go_wp2_with fail
        refine C3.out.mono ?_
        rintro e w4 ⟨rfl, hw⟩
        obtain rfl := hw.symm
        clear hw C3
        go_wp2_with fail
        go_roundg (n - (i + 1))
        case measure => omega
        case rel => exact ⟨i + 1, by go_num, by omega, by omega, H3.out⟩
      · obtain rfl : n = i := by omega
        have e0 : decide ((n : Int) < (n : Int)) = false := by simp
        clear hlt hix hi
        have k6 := K6.out
        obtain ⟨d, hd⟩ : ∃ d, (n : Int) - (k : Int) = d := ⟨_, rfl⟩
        have wd : wrap64 d = d := by unfold wrap64; omega
        obtain ⟨f, hf⟩ : ∃ f, n - k = f := ⟨_, rfl⟩
        have md : (if 0 < d then d else 0) = (f : Int) := by split <;> omega
        have C1 : Hid (∃ x b, (Calls Try.prog 10 #[.pointer (some ⟨p, 0, none⟩), .int .i64 ask] wr fun e w' => e = .returned (.tuple #[enV x, .bool b]) ∧ Gr wr w') ∧ ((b = true ∧ (f : Int) ≤ ask ∧ ask < (n : Int) ∧ x = keE q ask.toNat) ∨ (b = false ∧ ¬ ((f : Int) ≤ ask ∧ ask < (n : Int)) ∧ x = en0))) := Lib.hid (by
          by_cases h : (f : Int) ≤ ask ∧ ask < (n : Int)
          · exact ⟨_, true, rw_in D.out (by omega) ask.toNat (by omega) (by omega) (by omega), .inl ⟨rfl, h.1, h.2, rfl⟩⟩
          · exact ⟨_, false, rw_out D.out (by omega) ask (by omega), .inr ⟨rfl, h, rfl⟩⟩)
        obtain ⟨x, b, CG, hb⟩ := C1.out
        have CG := Lib.hid CG
        have HB := Lib.hid hb
        have HD := Lib.hid D.out
        have HF := Lib.hid hf
        clear C1 hb D hf
        go_wp2_with fail
        refine CG.out.mono ?_
        clear md wd hd k6
        rintro e w3 ⟨rfl, g3⟩
        have G4 := g3.alloc (enO x)
        have HW4 := Lib.hid (HD.out.gro G4)
        obtain ⟨y0, y1, y2, y3, y4, y5, y6, y7, y8, y9⟩ := row10 (en_row x w3)
        clear CG g3 G4 HD
        go_upto_region 16 with fail
        generalize w3.alloc (enO x) = W at *
        generalize w3.heap.size = B at *
        go_cut [13] (fun s13 wx => s13 = .bool b ∧ wx = W)
        case first =>
          clear y0 y1 y2 y3 y4 y5 y6 y7 y8 y9
          rcases HB.out with ⟨rfl, h1, h2, -⟩ | ⟨rfl, h1, -⟩
          · have e1 : decide (ask ≥ (f : Int)) = true := decide_eq_true h1
            have e2 : decide ((f : Int) ≤ ask) = true := decide_eq_true h1
            have e3 : decide (ask < (n : Int)) = true := decide_eq_true h2
            clear h1 h2 HB
            go_wp2_with fail
            go_meet
            exact ⟨rfl, rfl⟩
          · by_cases h2 : (f : Int) ≤ ask
            · have e1 : decide (ask ≥ (f : Int)) = true := decide_eq_true h2
              have e2 : decide ((f : Int) ≤ ask) = true := decide_eq_true h2
              have e3 : decide (ask < (n : Int)) = false := decide_eq_false (fun h => h1 ⟨h2, h⟩)
              clear h1 h2 HB
              go_wp2_with fail
              go_meet
              exact ⟨rfl, rfl⟩
            · have e1 : decide (ask ≥ (f : Int)) = false := decide_eq_false h2
              have e2 : decide ((f : Int) ≤ ask) = false := decide_eq_false h2
              clear h1 h2 HB
              go_wp2_with fail
              go_meet
              exact ⟨rfl, rfl⟩
        case rest =>
          obtain ⟨rfl, rfl⟩ := hcut
          go_upto_region 17 with fail
          have EQ := eqEx
          go_cut [106] (fun s106 wx => s106 = .bool false ∧ Gr wc wx)
          case first =>
            rcases HB.out with ⟨rfl, h1, h2, rfl⟩ | ⟨rfl, h1, rfl⟩
            · obtain ⟨s, rfl⟩ := Int.eq_ofNat_of_zero_le (show 0 ≤ ask by omega)
              have hlt : s < n := by omega
              have hltz : (s : Int) < (n : Int) := h2
              have bz : (0 : Int) ≤ (s : Int) ∧ (s : Int) < (n : Int) := by omega
              obtain ⟨b0, o0, rfl, hb0, hc⟩ := HQ.out (by omega)
              have g4 := HW4.out.gr
              have t0 := (g4.cell (p := ⟨b0, o0 + s * 8 + 0, none⟩) hb0 (fun e => e)).trans (hc s hlt 0 (by omega))
              have t1 := (g4.cell (p := ⟨b0, o0 + s * 8 + 1, none⟩) hb0 (fun e => e)).trans (hc s hlt 1 (by omega))
              have t2 := (g4.cell (p := ⟨b0, o0 + s * 8 + 2, none⟩) hb0 (fun e => e)).trans (hc s hlt 2 (by omega))
              have t3 := (g4.cell (p := ⟨b0, o0 + s * 8 + 3, none⟩) hb0 (fun e => e)).trans (hc s hlt 3 (by omega))
              have t4 := (g4.cell (p := ⟨b0, o0 + s * 8 + 4, none⟩) hb0 (fun e => e)).trans (hc s hlt 4 (by omega))
              have t5 := (g4.cell (p := ⟨b0, o0 + s * 8 + 5, none⟩) hb0 (fun e => e)).trans (hc s hlt 5 (by omega))
              have t6 := (g4.cell (p := ⟨b0, o0 + s * 8 + 6, none⟩) hb0 (fun e => e)).trans (hc s hlt 6 (by omega))
              have t7 := (g4.cell (p := ⟨b0, o0 + s * 8 + 7, none⟩) hb0 (fun e => e)).trans (hc s hlt 7 (by omega))
              simp only [cellE, Nat.add_zero] at t0 t1 t2 t3 t4 t5 t6 t7
              simp only [keE, Int.toNat_natCast] at y0 y1 y2 y3 y4 y5 y6 y7 y8 y9
              obtain ⟨q3, hq3⟩ : ∃ x, (s : Int) * 3 = x := ⟨_, rfl⟩
              have wq : IntKind.i64.wrap q3 = q3 := by rw [IntKind.wrap_i64]; omega
              have wq2 : wrap64 q3 = q3 := by unfold wrap64; omega
              rw [hq3] at y1
              clear hc g4 h1 h2 HB
              go_quiet (fail)
              go_wp2_with fail
              go_meet
              exact ⟨rfl, (Ke.refl _ _).drewN _⟩
            · simp only [en0, pc0] at y0 y1 y2 y3 y4 y5 y6 y7 y8 y9
              clear h1 HB
              go_quiet (fail)
              go_wp2_with fail
              go_meet
              exact ⟨rfl, (Ke.refl _ _).drewN _⟩
          case rest =>
            obtain ⟨rfl, g5⟩ := hcut
            have H5 := HW4.out.gro g5
            clear y0 y1 y2 y3 y4 y5 y6 y7 y8 y9 EQ HB
            obtain ⟨tI, ht⟩ : ∃ t, max (f : Int) ask = t := ⟨_, rfl⟩
            obtain ⟨cnt, hcnt⟩ : ∃ c : Nat, (c : Int) = max 0 ((n : Int) - tI) := ⟨(max 0 ((n : Int) - tI)).toNat, by omega⟩
            have hF := HF.out
            have CS : Hid (Calls Try.prog 11 #[.pointer (some ⟨p, 0, none⟩), .int .i64 ask] _ (SinceQ _ cnt (fun i => keE q (tI.toNat + i)))) := Lib.hid (by
              rcases Nat.eq_zero_or_pos cnt with h0 | h0
              · rw [h0]
                exact rw_since0 H5 (by omega) ask _ (by omega)
              · exact rw_since1 H5 (by omega) ask tI.toNat cnt (by omega) (by omega) h0)
            have mt : (if (f : Int) < ask then ask else (f : Int)) = tI := by split <;> omega
            obtain ⟨e', he⟩ : ∃ e, (n : Int) - tI = e := ⟨_, rfl⟩
            have we : wrap64 e' = e' := by have := HA.out; unfold wrap64; omega
            have me : (if 0 < e' then e' else 0) = (cnt : Int) := by split <;> omega
            have HC := Lib.hid (frm ht hcnt bn)
            have HB3 : Hid (cnt ≤ 300) := Lib.hid (by omega)
            have HG5 := Lib.hid H5.gr
            clear hF H5 ht hcnt g5 HF HW4
            go_wp2_with fail
            refine CS.out.mono ?_
            rintro e w6 ⟨a6, c6, rfl, g6, hc6, hrow⟩
            have G6 : Hid (Gr w w6) := Lib.hid (HG5.out.trans g6)
            have HR6 := Lib.hid hrow
            clear CS hrow g6 HG5
            go_wp2_with fail
            clear mt me we he
            go_loopg [16] cnt (fun kx s16 wr => ∃ j : Nat, s16 = .int .i64 (j : Int) ∧ j ≤ cnt ∧ cnt - j ≤ kx ∧ Aside (Gr w6 wr))
            case atStart => exact ⟨0, rfl, by omega, by omega, Ke.refl _ _⟩
            case round =>
              obtain ⟨j, rfl, hj, hjx, D⟩ := hrel
              by_cases hlt : j < cnt
              · have e1 : decide ((j : Int) < (cnt : Int)) = true := by simp; omega
                have e2 : decide (j < cnt) = true := by simp; omega
                have hltz : (j : Int) < (cnt : Int) := by omega
                have bz : (0 : Int) ≤ (j : Int) ∧ (j : Int) < (cnt : Int) := by omega
                obtain ⟨u, hu, hu2, hn0, hu3, hu2z, bu, wu, wu2⟩ := HC.out j hlt
                obtain ⟨b6, rfl, hb6, hr6⟩ := HR6.out (Nat.zero_lt_of_lt hlt)
                obtain ⟨b0, o0, rfl, hb0, hc⟩ := HQ.out hn0
                have gw : Gr w6 wr := D.out
                have r0 := kcell gw (hr6 j hlt 0 (by omega))
                have r1 := kcell gw (hr6 j hlt 1 (by omega))
                have r2 := kcell gw (hr6 j hlt 2 (by omega))
                have r3 := kcell gw (hr6 j hlt 3 (by omega))
                have r4 := kcell gw (hr6 j hlt 4 (by omega))
                have r5 := kcell gw (hr6 j hlt 5 (by omega))
                have r6 := kcell gw (hr6 j hlt 6 (by omega))
                have r7 := kcell gw (hr6 j hlt 7 (by omega))
                have r8 := kcell gw (hr6 j hlt 8 (by omega))
                have r9 := kcell gw (hr6 j hlt 9 (by omega))
                have t0 := ((G6.out.trans gw).cell (p := ⟨b0, o0 + u * 8 + 0, none⟩) hb0 (fun e => e)).trans (hc u hu2 0 (by omega))
                have t1 := ((G6.out.trans gw).cell (p := ⟨b0, o0 + u * 8 + 1, none⟩) hb0 (fun e => e)).trans (hc u hu2 1 (by omega))
                have t2 := ((G6.out.trans gw).cell (p := ⟨b0, o0 + u * 8 + 2, none⟩) hb0 (fun e => e)).trans (hc u hu2 2 (by omega))
                have t3 := ((G6.out.trans gw).cell (p := ⟨b0, o0 + u * 8 + 3, none⟩) hb0 (fun e => e)).trans (hc u hu2 3 (by omega))
                have t4 := ((G6.out.trans gw).cell (p := ⟨b0, o0 + u * 8 + 4, none⟩) hb0 (fun e => e)).trans (hc u hu2 4 (by omega))
                have t5 := ((G6.out.trans gw).cell (p := ⟨b0, o0 + u * 8 + 5, none⟩) hb0 (fun e => e)).trans (hc u hu2 5 (by omega))
                have t6 := ((G6.out.trans gw).cell (p := ⟨b0, o0 + u * 8 + 6, none⟩) hb0 (fun e => e)).trans (hc u hu2 6 (by omega))
                have t7 := ((G6.out.trans gw).cell (p := ⟨b0, o0 + u * 8 + 7, none⟩) hb0 (fun e => e)).trans (hc u hu2 7 (by omega))
                simp only [cellE, keE, hu, Nat.add_zero] at r0 r1 r2 r3 r4 r5 r6 r7 r8 r9 t0 t1 t2 t3 t4 t5 t6 t7
                have EQ := eqPx
                have HD := Lib.hid gw
                clear hc hr6 D gw hu hu2 hn0
                go_upto_region 26 with fail
                go_quiet (fail)
                go_wp2_with fail
                go_roundg (cnt - (j + 1))
                case measure => omega
                case rel => exact ⟨j + 1, by have := HB3.out; refine congrArg (Value.int .i64) ?_; unfold wrap64; omega, by omega, by omega, HD.out.drewN _⟩
              · obtain rfl : cnt = j := by omega
                have e1 : decide ((cnt : Int) < (cnt : Int)) = false := by simp
                have HD := Lib.hid (G6.out.trans D.out)
                clear D
                go_wp2
                go_ret
                exact ⟨rfl, HD.out⟩
end Go.Proofs.Ytgnfmmoanmhgpaa
