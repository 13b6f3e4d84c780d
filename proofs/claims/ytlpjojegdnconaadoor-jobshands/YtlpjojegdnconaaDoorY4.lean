/- JobsHands walked. -/
import Derived.Test.YtlpjojegdnconaaDoorY1
import Derived.Test.YtlpjojegdnconaaDoorGt
import Derived.Test.YtlpjojegdnconaaDoorY2
import Derived.Test.YtlpjojegdnconaaDoorX2
import Derived.Deep.RegionHeld3
namespace Go.Proofs.YtlpjojegdnconaaDoor
open Go.RowKit Go.Lib Go.Maps
open Ca (Ke Gr Sv Row Cl Ky Bs blk_other)
set_option linter.unusedVariables false
set_option maxRecDepth 100000
set_option maxHeartbeats 16000000

set_option maxRecDepth 100000 in
theorem hands_walk (a : Option Addr) (n cap : Nat) (id : Int) (hid : (Lit.int .i64 id).wf = true) (w : World) (hE : ElemsIn w 5 deCells a n) (hT : Tab w) :
    Calls Tryd.prog 6 #[.slice a n cap, .int .i64 id] w fun e w' => e = .returned (.bool true) ∧ Gr w w' := by
  have AW := Lib.hid (awake_true w hT)
  have HT := Lib.hid hT
  have HE := Lib.hid hE
  have HID := Lib.hid hid
  clear hT hE hid
  go_enter Tryd.func6, Tryd.ntmps6
  go_wp2_with fail
  refine AW.out.mono ?_
  rintro e wa ⟨rfl, ga⟩
  have C := Lib.hid (jw_new HT.out ga 12 12 (by omega) (by simp))
  have GA := Lib.hid ga
  clear ga AW
  by_cases hn : (n : Int) > 60
  · have dn : decide ((n : Int) > 60) = true := decide_eq_true hn
    clear C
    go_wp2_with fail
    go_ret
    exact ⟨rfl, GA.out⟩
  have dn : decide ((n : Int) > 60) = false := decide_eq_false hn
  have hn60 : n ≤ 60 := by omega
  clear hn
  go_wp2_with fail
  refine C.out.mono ?_
  rintro e w1 ⟨pa, Fa, rfl, h1, -, -⟩
  have C := Lib.hid (jw_new HT.out h1.gr 12 12 (by omega) (by simp))
  have H1 := Lib.hid h1
  clear h1
  go_wp2_with fail
  refine C.out.mono ?_
  rintro e w2 ⟨pb, Fb, rfl, h2, g2, nf2⟩
  have OW : Hid (Ow w pa pb 0 [] w2) := ⟨0, 0, Fa, Fb, H1.out.gro g2, h2, fun j hj z => by have := (H1.out.jb.lt hj).2; have := nf2 j z; omega, by omega, by omega⟩
  clear h2 g2 nf2 C H1
  go_wp2_with fail
  clear dn
  go_loopg [7, 8] n (fun kx s7 s8 wr => ∃ m : Nat, s7 = .int .i64 m ∧ s8 = .int .i64 m ∧ m ≤ n ∧ n - m ≤ kx ∧ Aside (∃ S, Ow w pa pb (2 * m) S wr))
  case atStart => exact ⟨0, rfl, rfl, by omega, by omega, [], OW.out⟩
  case round =>
    obtain ⟨m, rfl, rfl, hm, hkx, HI⟩ := hrel
    clear OW
    by_cases hlt : m < n
    · have hltz : (m : Int) < (n : Int) := by omega
      obtain ⟨S, ow⟩ := HI.out
      obtain ⟨ca, cb, Fa', Fb', ha, hb', dj, ka, kb⟩ := ow
      obtain ⟨b, off, q, rfl, hb, hcell⟩ : ∃ (b off : Nat) (q : Nat → De), a = some ⟨b, off, none⟩ ∧ b < w.heap.size ∧ ∀ i, i < n → ∀ j, j < 5 → w.cell? ⟨b, off + i * 5 + j, none⟩ = (deCells (q i))[j]? := by
        rcases HE.out with z | z
        · omega
        · exact z
      have hc := fun j (hj : j < 5) => hcell m hlt j hj
      have e0 := Ca.gcell ha.gr ((hc 0 (by omega)).trans rfl)
      have e1 := Ca.gcell ha.gr ((hc 1 (by omega)).trans rfl)
      have e2 := Ca.gcell ha.gr ((hc 2 (by omega)).trans rfl)
      have e3 := Ca.gcell ha.gr ((hc 3 (by omega)).trans rfl)
      have e4 := Ca.gcell ha.gr ((hc 4 (by omega)).trans rfl)
      obtain ⟨d, hd⟩ : ∃ d, d = q m := ⟨_, rfl⟩
      simp only [Nat.add_zero, ← hd] at e0 e1 e2 e3 e4
      clear hc hcell hd HI
      go_upto_region 14 with fail
      obtain ⟨W, hW⟩ : ∃ W, W = (wr.alloc (.cells #[.int .i64 d.o, .int .i64 d.i, .int .i64 d.e, .int .i64 d.p, .bool d.s] 31)).alloc (.cells #[.pointer (some ⟨pa, 0, none⟩), .pointer (some ⟨pb, 0, none⟩)] 24) := ⟨_, rfl⟩
      obtain ⟨bx, hbx⟩ : ∃ bx, bx = wr.heap.size + 1 := ⟨_, rfl⟩
      obtain ⟨bd, hbd⟩ : ∃ bd, bd = wr.heap.size := ⟨_, rfl⟩
      have gW : Gr wr W := by rw [hW]; exact ((Ke.refl _ _).alloc _).alloc _
      have DXS : Hid (DX d pa pb bx bd W) := by
        rw [hW, hbx, hbd]
        have s1 : (wr.alloc (.cells #[.int .i64 d.o, .int .i64 d.i, .int .i64 d.e, .int .i64 d.p, .bool d.s] 31)).heap.size = wr.heap.size + 1 := by simp
        have g2 := (Ke.refl (fun _ => False) (wr.alloc (.cells #[.int .i64 d.o, .int .i64 d.i, .int .i64 d.e, .int .i64 d.p, .bool d.s] 31))).alloc (.cells #[.pointer (some ⟨pa, 0, none⟩), .pointer (some ⟨pb, 0, none⟩)] 24)
        have b1 := heap_alloc_new (wr.alloc (.cells #[.int .i64 d.o, .int .i64 d.i, .int .i64 d.e, .int .i64 d.p, .bool d.s] 31)) (.cells #[.pointer (some ⟨pa, 0, none⟩), .pointer (some ⟨pb, 0, none⟩)] 24)
        rw [s1] at b1
        exact ⟨Ca.gcell g2 (by simp [go_sem]), Ca.gcell g2 (by simp [go_sem]), Ca.gcell g2 (by simp [go_sem]), Ca.gcell g2 (by simp [go_sem]), Ca.gcell g2 (by simp [go_sem]), by simp only [World.cell?, b1]; rfl, by simp only [World.cell?, b1]; rfl⟩
      have HBS : Hid (Hb w S d (m : Int) (2 * m) pa pb bx bd 0 W) := ⟨ca, cb, Fa', Fb', ⟨by simpa using ha.gro gW, by simpa using hb'.gro gW, dj, jw_out ha (by omega), jw_out ha (by omega), jw_out hb' (by omega), jw_out hb' (by omega)⟩, by omega, by omega⟩
      rw [← hbx, ← hbd, ← hW]
      clear hW hbx hbd gW ha hb' dj ka kb e0 e1 e2 e3 e4 hb
      go_wp2_with fail
      go_loopg [11] 2 (fun kx2 s11 wr' => ∃ k : Nat, s11 = .int .i64 k ∧ k ≤ 2 ∧ 2 - k ≤ kx2 ∧ Aside (Hb w S d (m : Int) (2 * m) pa pb bx bd k wr' ∧ DX d pa pb bx bd wr'))
      case atStart => exact ⟨0, rfl, by omega, by omega, HBS.out, DXS.out⟩
      case round =>
        obtain ⟨k, rfl, hk, hkx2, HK⟩ := hrel
        clear HBS DXS
        by_cases hk2 : k < 2
        · have hkz : (k : Int) < 2 := by omega
          obtain ⟨p, c, F, FO⟩ := hb_focus HK.out.1 hk2 (Ca.lt_of_cell HK.out.2.x0) (Ca.lt_of_cell HK.out.2.d0)
          have FF := Lib.hid FO
          have H := Lib.hid FO.jw
          have DD := Lib.hid HK.out.2
          have kx := DD.out.xk hk2 FO.pk
          have kd0 := DD.out.d0
          have kd1 := DD.out.d1
          have kd2 := DD.out.d2
          have kd3 := DD.out.d3
          have kd4 := DD.out.d4
          have hcb : c ≤ 2000 := by have := FO.cb; omega
          clear FO HK
          go_upto_block 4 with fail
          go_cut [11] from 52 to 152 (fun s11 wx => s11 = .int .i64 k ∧ Sw w p c F (haS S d (m : Int)) wr wx)
          case first =>
            by_cases h0 : d.o = 0
            · have HO := Lib.hid h0
              have f0 : (d.o == 0) = true := by rw [h0]; rfl
              have f1 : (d.o == 1) = false := by rw [h0]; rfl
              have f2 : (d.o == 2) = false := by rw [h0]; rfl
              have f3 : (d.o == 3) = false := by rw [h0]; rfl
              have f4 : (d.o == 4) = false := by rw [h0]; rfl
              have f5 : (d.o == 5) = false := by rw [h0]; rfl
              have f6 : (d.o == 6) = false := by rw [h0]; rfl
              have f7 : (d.o == 7) = false := by rw [h0]; rfl
              have f8 : (d.o == 8) = false := by rw [h0]; rfl
              clear h0
              go_upto_region 21 with fail
              have bz2 : ¬ (2 : Int) ≤ (k : Int) := by omega
              have bz3 : (k : Int) < 2 := by omega
              have IX : ∀ w, (Instr.indexAt 57 (.slice (some ⟨bx, 0, none⟩) 2 2) (.int .i64 (k : Int))).run Tryd.prog w = .ok (.pointer (some ⟨bx, k, none⟩)) w := fun w => by simp [go_sem, bz3]
              have gx := Ca.gw_cell kx
              have g1 := Ca.gw_cell kd1
              have g2 := Ca.gw_cell kd2
              have g3 := Ca.gw_cell kd3
              have g4 := Ca.gw_cell kd4
              have hne : Nonempty (Ca.GW wr) := ⟨⟨wr, Ke.refl _ _⟩⟩
              have hself := @Ca.gw_self wr
              have hself' : ∀ p : Ca.GW wr, ∃ q : Ca.GW wr, q.W = p.W := fun p => ⟨p, rfl⟩
              clear kx kd0 kd1 kd2 kd3 kd4
              refine Ca.wp_region_gw_tail 12 (by kernel_rfl) (by kernel_rfl) ?_
              simp only [List.take_succ_cons, List.take_zero, List.drop_succ_cons, List.drop_zero]
              repeat (go_big_quiet_step (rfl))
              refine wpQuiet_nil ?_
              intro _ hw'
              obtain ⟨pp, hw''⟩ := hw'
              subst hw''
              have G1 := Lib.hid pp.gr
              clear gx hne hself hself' g1 g2 g3 g4
              generalize pp.W = W1 at *
              clear pp
              have C := Lib.hid (jw_join (H.out.gro G1.out) d.i d.e d.p d.s d.hi)
              go_wp2_with fail
              refine C.out.mono ?_
              rintro e w3 ⟨rfl, L3⟩
              have SWW := Lib.hid (sw_lj' G1.out L3)
              clear C L3
              go_wp2_with fail
              go_meet
              case rel => exact ⟨rfl, by have ho := HO.out; unfold haS; rw [if_pos (by omega)]; exact SWW.out⟩
            by_cases h1 : d.o = 1
            · have HO := Lib.hid h1
              have f0 : (d.o == 0) = false := by rw [h1]; rfl
              have f1 : (d.o == 1) = true := by rw [h1]; rfl
              have f2 : (d.o == 2) = false := by rw [h1]; rfl
              have f3 : (d.o == 3) = false := by rw [h1]; rfl
              have f4 : (d.o == 4) = false := by rw [h1]; rfl
              have f5 : (d.o == 5) = false := by rw [h1]; rfl
              have f6 : (d.o == 6) = false := by rw [h1]; rfl
              have f7 : (d.o == 7) = false := by rw [h1]; rfl
              have f8 : (d.o == 8) = false := by rw [h1]; rfl
              clear h1
              go_upto_region 21 with fail
              have bz2 : ¬ (2 : Int) ≤ (k : Int) := by omega
              have bz3 : (k : Int) < 2 := by omega
              have IX : ∀ w, (Instr.indexAt 57 (.slice (some ⟨bx, 0, none⟩) 2 2) (.int .i64 (k : Int))).run Tryd.prog w = .ok (.pointer (some ⟨bx, k, none⟩)) w := fun w => by simp [go_sem, bz3]
              have gx := Ca.gw_cell kx
              have g1 := Ca.gw_cell kd1
              have g2 := Ca.gw_cell kd2
              have g3 := Ca.gw_cell kd3
              have g4 := Ca.gw_cell kd4
              have hne : Nonempty (Ca.GW wr) := ⟨⟨wr, Ke.refl _ _⟩⟩
              have hself := @Ca.gw_self wr
              have hself' : ∀ p : Ca.GW wr, ∃ q : Ca.GW wr, q.W = p.W := fun p => ⟨p, rfl⟩
              clear kx kd0 kd1 kd2 kd3 kd4
              refine Ca.wp_region_gw_tail 12 (by kernel_rfl) (by kernel_rfl) ?_
              simp only [List.take_succ_cons, List.take_zero, List.drop_succ_cons, List.drop_zero]
              repeat (go_big_quiet_step (rfl))
              refine wpQuiet_nil ?_
              intro _ hw'
              obtain ⟨pp, hw''⟩ := hw'
              subst hw''
              have G1 := Lib.hid pp.gr
              clear gx hne hself hself' g1 g2 g3 g4
              generalize pp.W = W1 at *
              clear pp
              have C := Lib.hid (jw_join (H.out.gro G1.out) d.i d.e d.p d.s d.hi)
              go_wp2_with fail
              refine C.out.mono ?_
              rintro e w3 ⟨rfl, L3⟩
              have SWW := Lib.hid (sw_lj' G1.out L3)
              clear C L3
              go_wp2_with fail
              go_meet
              case rel => exact ⟨rfl, by have ho := HO.out; unfold haS; rw [if_pos (by omega)]; exact SWW.out⟩
            by_cases h2 : d.o = 2
            · have HO := Lib.hid h2
              have f0 : (d.o == 0) = false := by rw [h2]; rfl
              have f1 : (d.o == 1) = false := by rw [h2]; rfl
              have f2 : (d.o == 2) = true := by rw [h2]; rfl
              have f3 : (d.o == 3) = false := by rw [h2]; rfl
              have f4 : (d.o == 4) = false := by rw [h2]; rfl
              have f5 : (d.o == 5) = false := by rw [h2]; rfl
              have f6 : (d.o == 6) = false := by rw [h2]; rfl
              have f7 : (d.o == 7) = false := by rw [h2]; rfl
              have f8 : (d.o == 8) = false := by rw [h2]; rfl
              clear h2
              go_upto_region 23 with fail
              have bz2 : ¬ (2 : Int) ≤ (k : Int) := by omega
              have bz3 : (k : Int) < 2 := by omega
              have IX : ∀ w, (Instr.indexAt 57 (.slice (some ⟨bx, 0, none⟩) 2 2) (.int .i64 (k : Int))).run Tryd.prog w = .ok (.pointer (some ⟨bx, k, none⟩)) w := fun w => by simp [go_sem, bz3]
              have gx := Ca.gw_cell kx
              have g1 := Ca.gw_cell kd1
              have hne : Nonempty (Ca.GW wr) := ⟨⟨wr, Ke.refl _ _⟩⟩
              have hself := @Ca.gw_self wr
              have hself' : ∀ p : Ca.GW wr, ∃ q : Ca.GW wr, q.W = p.W := fun p => ⟨p, rfl⟩
              clear kx kd0 kd1 kd2 kd3 kd4
              refine Ca.wp_region_gw_tail 6 (by kernel_rfl) (by kernel_rfl) ?_
              simp only [List.take_succ_cons, List.take_zero, List.drop_succ_cons, List.drop_zero]
              repeat (go_big_quiet_step (rfl))
              refine wpQuiet_nil ?_
              intro _ hw'
              obtain ⟨pp, hw''⟩ := hw'
              subst hw''
              have G1 := Lib.hid pp.gr
              clear gx hne hself hself' g1
              generalize pp.W = W1 at *
              clear pp
              have C := Lib.hid (jw_leave (H.out.gro G1.out) d.i d.hi)
              go_wp2_with fail
              refine C.out.mono ?_
              rintro e w3 ⟨rfl, L3⟩
              have SWW := Lib.hid (sw_lj' G1.out L3)
              clear C L3
              go_wp2_with fail
              go_meet
              case rel => exact ⟨rfl, by have ho := HO.out; unfold haS; rw [if_neg (by omega)]; rw [if_pos (by omega)]; exact SWW.out⟩
            by_cases h3 : d.o = 3
            · have HO := Lib.hid h3
              have f0 : (d.o == 0) = false := by rw [h3]; rfl
              have f1 : (d.o == 1) = false := by rw [h3]; rfl
              have f2 : (d.o == 2) = false := by rw [h3]; rfl
              have f3 : (d.o == 3) = true := by rw [h3]; rfl
              have f4 : (d.o == 4) = false := by rw [h3]; rfl
              have f5 : (d.o == 5) = false := by rw [h3]; rfl
              have f6 : (d.o == 6) = false := by rw [h3]; rfl
              have f7 : (d.o == 7) = false := by rw [h3]; rfl
              have f8 : (d.o == 8) = false := by rw [h3]; rfl
              clear h3
              go_upto_region 25 with fail
              have bz2 : ¬ (2 : Int) ≤ (k : Int) := by omega
              have bz3 : (k : Int) < 2 := by omega
              have IX : ∀ w, (Instr.indexAt 57 (.slice (some ⟨bx, 0, none⟩) 2 2) (.int .i64 (k : Int))).run Tryd.prog w = .ok (.pointer (some ⟨bx, k, none⟩)) w := fun w => by simp [go_sem, bz3]
              have gx := Ca.gw_cell kx
              have g1 := Ca.gw_cell kd1
              have hne : Nonempty (Ca.GW wr) := ⟨⟨wr, Ke.refl _ _⟩⟩
              have hself := @Ca.gw_self wr
              have hself' : ∀ p : Ca.GW wr, ∃ q : Ca.GW wr, q.W = p.W := fun p => ⟨p, rfl⟩
              clear kx kd0 kd1 kd2 kd3 kd4
              refine Ca.wp_region_gw_tail 6 (by kernel_rfl) (by kernel_rfl) ?_
              simp only [List.take_succ_cons, List.take_zero, List.drop_succ_cons, List.drop_zero]
              repeat (go_big_quiet_step (rfl))
              refine wpQuiet_nil ?_
              intro _ hw'
              obtain ⟨pp, hw''⟩ := hw'
              subst hw''
              have G1 := Lib.hid pp.gr
              clear gx hne hself hself' g1
              generalize pp.W = W1 at *
              clear pp
              have C := Lib.hid (jw_arrive (H.out.gro G1.out) d.i d.hi)
              go_wp2_with fail
              refine C.out.mono ?_
              rintro e w3 ⟨rfl, L3⟩
              have SWW := Lib.hid (sw_lj' G1.out L3)
              clear C L3
              go_wp2_with fail
              go_meet
              case rel => exact ⟨rfl, by have ho := HO.out; unfold haS; rw [if_neg (by omega)]; rw [if_neg (by omega)]; rw [if_pos (by omega)]; exact SWW.out⟩
            by_cases h4 : d.o = 4
            · have HO := Lib.hid h4
              have f0 : (d.o == 0) = false := by rw [h4]; rfl
              have f1 : (d.o == 1) = false := by rw [h4]; rfl
              have f2 : (d.o == 2) = false := by rw [h4]; rfl
              have f3 : (d.o == 3) = false := by rw [h4]; rfl
              have f4 : (d.o == 4) = true := by rw [h4]; rfl
              have f5 : (d.o == 5) = false := by rw [h4]; rfl
              have f6 : (d.o == 6) = false := by rw [h4]; rfl
              have f7 : (d.o == 7) = false := by rw [h4]; rfl
              have f8 : (d.o == 8) = false := by rw [h4]; rfl
              clear h4
              go_upto_region 27 with fail
              have bz2 : ¬ (2 : Int) ≤ (k : Int) := by omega
              have bz3 : (k : Int) < 2 := by omega
              have IX : ∀ w, (Instr.indexAt 57 (.slice (some ⟨bx, 0, none⟩) 2 2) (.int .i64 (k : Int))).run Tryd.prog w = .ok (.pointer (some ⟨bx, k, none⟩)) w := fun w => by simp [go_sem, bz3]
              have gx := Ca.gw_cell kx
              have g1 := Ca.gw_cell kd1
              have hne : Nonempty (Ca.GW wr) := ⟨⟨wr, Ke.refl _ _⟩⟩
              have hself := @Ca.gw_self wr
              have hself' : ∀ p : Ca.GW wr, ∃ q : Ca.GW wr, q.W = p.W := fun p => ⟨p, rfl⟩
              clear kx kd0 kd1 kd2 kd3 kd4
              refine Ca.wp_region_gw_tail 6 (by kernel_rfl) (by kernel_rfl) ?_
              simp only [List.take_succ_cons, List.take_zero, List.drop_succ_cons, List.drop_zero]
              repeat (go_big_quiet_step (rfl))
              refine wpQuiet_nil ?_
              intro _ hw'
              obtain ⟨pp, hw''⟩ := hw'
              subst hw''
              have G1 := Lib.hid pp.gr
              clear gx hne hself hself' g1
              generalize pp.W = W1 at *
              clear pp
              have C := Lib.hid (jw_finish (H.out.gro G1.out) d.i d.hi)
              go_wp2_with fail
              refine C.out.mono ?_
              rintro e w3 ⟨rfl, L3⟩
              have SWW := Lib.hid (sw_lj' G1.out L3)
              clear C L3
              go_wp2_with fail
              go_meet
              case rel => exact ⟨rfl, by have ho := HO.out; unfold haS; rw [if_neg (by omega)]; rw [if_neg (by omega)]; rw [if_neg (by omega)]; rw [if_pos (by omega)]; exact SWW.out⟩
            by_cases h5 : d.o = 5
            · have HO := Lib.hid h5
              have f0 : (d.o == 0) = false := by rw [h5]; rfl
              have f1 : (d.o == 1) = false := by rw [h5]; rfl
              have f2 : (d.o == 2) = false := by rw [h5]; rfl
              have f3 : (d.o == 3) = false := by rw [h5]; rfl
              have f4 : (d.o == 4) = false := by rw [h5]; rfl
              have f5 : (d.o == 5) = true := by rw [h5]; rfl
              have f6 : (d.o == 6) = false := by rw [h5]; rfl
              have f7 : (d.o == 7) = false := by rw [h5]; rfl
              have f8 : (d.o == 8) = false := by rw [h5]; rfl
              clear h5
              have C := Lib.hid (jw_release H.out (t := (m : Int)) (by omega) (by omega) (by omega))
              have RL := Lib.hid (relI_len S)
              have SL := Lib.hid FF.out
              go_wp2_with fail
              refine C.out.mono ?_
              rintro e w3 ⟨u3, rfl, F3, r3, h3, s3, nf3⟩
              have SWW : Hid (Sw w p c F (relT (m : Int) _) wr w3) := Lib.hid ⟨_, F3, h3, by have h1 := Nat.le_trans (relI_len S) (jw_len H.out); omega, s3⟩
              clear C r3 h3 s3 nf3
              go_wp2_with fail
              go_meet
              case rel => exact ⟨rfl, by have ho := HO.out; unfold haS; rw [if_neg (by omega)]; rw [if_neg (by omega)]; rw [if_neg (by omega)]; rw [if_neg (by omega)]; rw [if_pos (by omega)]; exact SWW.out⟩
            by_cases h6 : d.o = 6
            · have HO := Lib.hid h6
              have f0 : (d.o == 0) = false := by rw [h6]; rfl
              have f1 : (d.o == 1) = false := by rw [h6]; rfl
              have f2 : (d.o == 2) = false := by rw [h6]; rfl
              have f3 : (d.o == 3) = false := by rw [h6]; rfl
              have f4 : (d.o == 4) = false := by rw [h6]; rfl
              have f5 : (d.o == 5) = false := by rw [h6]; rfl
              have f6 : (d.o == 6) = true := by rw [h6]; rfl
              have f7 : (d.o == 7) = false := by rw [h6]; rfl
              have f8 : (d.o == 8) = false := by rw [h6]; rfl
              clear h6
              have C := Lib.hid (jw_release H.out (t := (m : Int)) (by omega) (by omega) (by omega))
              have RL := Lib.hid (relI_len S)
              have SL := Lib.hid FF.out
              go_wp2_with fail
              refine C.out.mono ?_
              rintro e w3 ⟨u3, rfl, F3, r3, h3, s3, nf3⟩
              have SWW : Hid (Sw w p c F (relT (m : Int) _) wr w3) := Lib.hid ⟨_, F3, h3, by have h1 := Nat.le_trans (relI_len S) (jw_len H.out); omega, s3⟩
              clear C r3 h3 s3 nf3
              go_wp2_with fail
              go_meet
              case rel => exact ⟨rfl, by have ho := HO.out; unfold haS; rw [if_neg (by omega)]; rw [if_neg (by omega)]; rw [if_neg (by omega)]; rw [if_neg (by omega)]; rw [if_pos (by omega)]; exact SWW.out⟩
            by_cases h7 : d.o = 7
            · have HO := Lib.hid h7
              have f0 : (d.o == 0) = false := by rw [h7]; rfl
              have f1 : (d.o == 1) = false := by rw [h7]; rfl
              have f2 : (d.o == 2) = false := by rw [h7]; rfl
              have f3 : (d.o == 3) = false := by rw [h7]; rfl
              have f4 : (d.o == 4) = false := by rw [h7]; rfl
              have f5 : (d.o == 5) = false := by rw [h7]; rfl
              have f6 : (d.o == 6) = false := by rw [h7]; rfl
              have f7 : (d.o == 7) = true := by rw [h7]; rfl
              have f8 : (d.o == 8) = false := by rw [h7]; rfl
              clear h7
              have C := Lib.hid (jw_settle H.out (m : Int))
              go_wp2_with fail
              refine C.out.mono ?_
              rintro e w3 ⟨u3, rfl, F3, r3, h3, s3, nf3⟩
              have SWW : Hid (Sw w p c F (stlT (m : Int) _) wr w3) := Lib.hid ⟨c, F3, h3, by omega, s3⟩
              clear C r3 h3 s3 nf3
              go_wp2_with fail
              go_meet
              case rel => exact ⟨rfl, by have ho := HO.out; unfold haS; rw [if_neg (by omega)]; rw [if_neg (by omega)]; rw [if_neg (by omega)]; rw [if_neg (by omega)]; rw [if_neg (by omega)]; rw [if_pos (by omega)]; exact SWW.out⟩
            by_cases h8 : d.o = 8
            · have HO := Lib.hid h8
              have f0 : (d.o == 0) = false := by rw [h8]; rfl
              have f1 : (d.o == 1) = false := by rw [h8]; rfl
              have f2 : (d.o == 2) = false := by rw [h8]; rfl
              have f3 : (d.o == 3) = false := by rw [h8]; rfl
              have f4 : (d.o == 4) = false := by rw [h8]; rfl
              have f5 : (d.o == 5) = false := by rw [h8]; rfl
              have f6 : (d.o == 6) = false := by rw [h8]; rfl
              have f7 : (d.o == 7) = false := by rw [h8]; rfl
              have f8 : (d.o == 8) = true := by rw [h8]; rfl
              clear h8
              have C := Lib.hid (jw_settle H.out (m : Int))
              go_wp2_with fail
              refine C.out.mono ?_
              rintro e w3 ⟨u3, rfl, F3, r3, h3, s3, nf3⟩
              have SWW : Hid (Sw w p c F (stlT (m : Int) _) wr w3) := Lib.hid ⟨c, F3, h3, by omega, s3⟩
              clear C r3 h3 s3 nf3
              go_wp2_with fail
              go_meet
              case rel => exact ⟨rfl, by have ho := HO.out; unfold haS; rw [if_neg (by omega)]; rw [if_neg (by omega)]; rw [if_neg (by omega)]; rw [if_neg (by omega)]; rw [if_neg (by omega)]; rw [if_pos (by omega)]; exact SWW.out⟩
            have n0 : (d.o == 0) = false := by simp [h0]
            have n1 : (d.o == 1) = false := by simp [h1]
            have n2 : (d.o == 2) = false := by simp [h2]
            have n3 : (d.o == 3) = false := by simp [h3]
            have n4 : (d.o == 4) = false := by simp [h4]
            have n5 : (d.o == 5) = false := by simp [h5]
            have n6 : (d.o == 6) = false := by simp [h6]
            have n7 : (d.o == 7) = false := by simp [h7]
            have n8 : (d.o == 8) = false := by simp [h8]
            go_upto_region 18 with fail
            have bz2 : ¬ (2 : Int) ≤ (k : Int) := by omega
            have bz3 : (k : Int) < 2 := by omega
            have IX : ∀ w, (Instr.indexAt 57 (.slice (some ⟨bx, 0, none⟩) 2 2) (.int .i64 (k : Int))).run Tryd.prog w = .ok (.pointer (some ⟨bx, k, none⟩)) w := fun w => by simp [go_sem, bz3]
            have gx := Ca.gw_cell kx
            have g1 := Ca.gw_cell kd1
            have hne : Nonempty (Ca.GW wr) := ⟨⟨wr, Ke.refl _ _⟩⟩
            have hself := @Ca.gw_self wr
            have hself' : ∀ p : Ca.GW wr, ∃ q : Ca.GW wr, q.W = p.W := fun p => ⟨p, rfl⟩
            clear kx kd0 kd1 kd2 kd3 kd4
            refine Ca.wp_region_gw_tail 6 (by kernel_rfl) (by kernel_rfl) ?_
            simp only [List.take_succ_cons, List.take_zero, List.drop_succ_cons, List.drop_zero]
            repeat (go_big_quiet_step (rfl))
            refine wpQuiet_nil ?_
            intro _ hw'
            obtain ⟨pp, hw''⟩ := hw'
            subst hw''
            have G1 := Lib.hid pp.gr
            clear gx hne hself hself' g1
            generalize pp.W = W1 at *
            clear pp
            have C := Lib.hid (jw_give (H.out.gro G1.out) d.i d.hi)
            go_wp2_with fail
            refine C.out.mono ?_
            rintro e w3 ⟨rfl, L3⟩
            have SWW := Lib.hid (sw_lj' G1.out L3)
            clear C L3
            go_wp2_with fail
            go_meet
            case rel => exact ⟨rfl, by unfold haS; rw [if_neg (by omega)]; rw [if_neg (by omega)]; rw [if_neg (by omega)]; rw [if_neg (by omega)]; rw [if_neg (by omega)]; rw [if_neg (by omega)]; exact SWW.out⟩
          case rest =>
            obtain ⟨wq, hwq⟩ : ∃ wq, wq = wc := ⟨_, rfl⟩
            subst hwq
            obtain ⟨rfl, c', F', h', hc', sv⟩ := hcut
            have kx' := sv_cell sv kx FF.out.nx
            have kd1' := sv_cell sv kd1 FF.out.nd
            have H' := Lib.hid h'
            have SV := Lib.hid sv
            have HCC := Lib.hid hc'
            clear kx kd0 kd1 kd2 kd3 kd4 h' sv hc'
            obtain ⟨S', hS'⟩ : ∃ S', S' = haS S d (m : Int) := ⟨_, rfl⟩
            have HS' := Lib.hid hS'
            rw [← hS'] at H'
            clear hS'
            have CT := Lib.hid (fun W (G : Gr wq W) => jw_task (H'.out.gro G) d.i d.hi)
            unfold TkQ at CT
            simp only [aggT] at CT
            generalize (getT S' d.i).getD zeroT = X at *
            generalize (getT S' d.i).isSome = tb at *
            obtain ⟨a0, a1, a2, b3, b4, b5, b6, a7, a8, b9, a10⟩ := X
            simp only at CT
            have hbx := Ca.lt_of_cell kx'
            have hbd := Ca.lt_of_cell kd1'
            simp only at hbx hbd
            have bz2 : ¬ (2 : Int) ≤ (k : Int) := by omega
            have bz3 : (k : Int) < 2 := by omega
            have IX : ∀ w, (Instr.indexAt 57 (.slice (some ⟨bx, 0, none⟩) 2 2) (.int .i64 (k : Int))).run Tryd.prog w = .ok (.pointer (some ⟨bx, k, none⟩)) w := fun w => by simp [go_sem, bz3]
            go_upto_region 34 with fail
            go_cut [12] (fun s12 wx => TB wq s12 wx)
            case first =>
              clear IX
              go_region_held3 (fun w' => w'.cell? ⟨bx, k, none⟩ = some (.pointer (some ⟨p, 0, none⟩)) ∧ w'.cell? ⟨bd, 1, none⟩ = some (.int .i64 d.i))
                (refine ⟨?_, ?_⟩ <;> (repeat (first | (with_reducible assumption) | (with_reducible refine cell_old ?_ _ _) | (with_reducible refine cell_drew ?_) | (with_reducible refine cell_drewN ?_ _) | (with_reducible refine cell_set ?_ (by omega) _))))
                (first
                  | (go_at_call 25; (with_reducible refine (CT.out _ (by repeat (first | with_reducible exact Ke.refl _ _ | with_reducible apply Ke.drew | with_reducible refine Ke.alloc ?_ _))).mono ?_); rintro x wA ⟨rfl, gA⟩; have y0 : wA.cell? ⟨bx, k, none⟩ = some (.pointer (some ⟨p, 0, none⟩)) := Ca.gcell gA (by repeat (first | (with_reducible assumption) | (with_reducible refine cell_old ?_ _ _) | (with_reducible refine cell_drew ?_))); have y1 : wA.cell? ⟨bd, 1, none⟩ = some (.int .i64 d.i) := Ca.gcell gA (by repeat (first | (with_reducible assumption) | (with_reducible refine cell_old ?_ _ _) | (with_reducible refine cell_drew ?_))); have zA := gA.size; (try simp at zA); (try (refine b11_carry wq.heap.size gA ?_ ?_; (· (repeat (first | (with_reducible exact b11_new _ _ _ _ _ _ _ _ _ _ _ _ _) | with_reducible apply B11.drew))); intro hB; obtain ⟨o0, v0⟩ := hB.c 0 (by omega); obtain ⟨o1, v1⟩ := hB.c 1 (by omega); obtain ⟨o2, v2⟩ := hB.c 2 (by omega); obtain ⟨o3, v3⟩ := hB.c 3 (by omega); obtain ⟨o4, v4⟩ := hB.c 4 (by omega); obtain ⟨o5, v5⟩ := hB.c 5 (by omega); obtain ⟨o6, v6⟩ := hB.c 6 (by omega); obtain ⟨o7, v7⟩ := hB.c 7 (by omega); obtain ⟨o8, v8⟩ := hB.c 8 (by omega); obtain ⟨o9, v9⟩ := hB.c 9 (by omega); obtain ⟨o10, v10⟩ := hB.c 10 (by omega); have u0 := hB.z 0; have u1 := hB.z 1; have u2 := hB.z 2; have u3 := hB.z 3; have u4 := hB.z 4; have u5 := hB.z 5; have u6 := hB.z 6; have u7 := hB.z 7; have u8 := hB.z 8; have u9 := hB.z 9; have u10 := hB.z 10))))
              all_goals (go_wp2_with fail)
              all_goals go_meet
              · have gg : Gr wq wA := Ke.trans (by repeat (first | with_reducible exact Ke.refl _ _ | with_reducible apply Ke.drew | with_reducible refine Ke.alloc ?_ _)) gA
                exact ⟨_, rfl, gg.size, b11_new _ _ _ _ _ _ _ _ _ _ _ _ _, gg.alloc _⟩
              · have gg : Gr wq wA := Ke.trans (by repeat (first | with_reducible exact Ke.refl _ _ | with_reducible apply Ke.drew | with_reducible refine Ke.alloc ?_ _)) gA
                refine ⟨_, rfl, Nat.le_refl _, ?_, ?_⟩
                · repeat (first | with_reducible exact hB | with_reducible refine B11.set ?_ _ _ _)
                · repeat (first | with_reducible exact gg | with_reducible refine Ke.set ?_ (.inr (Nat.le_refl _)) _)
            case rest =>
              obtain ⟨B, rfl, hB, b11, gB⟩ := hcut
              have kx2 := Ca.gcell gB kx'
              have hxB : bx ≠ B := by omega
              obtain ⟨o8, v8⟩ := b11.c 8 (by omega)
              obtain ⟨o1, v1⟩ := b11.c 1 (by omega)
              obtain ⟨o4, v4⟩ := b11.c 4 (by omega)
              have u8 := b11.z 8
              have u1 := b11.z 1
              have u4 := b11.z 4
              have K3 := Lib.hid (b11.ke3 8 1 4 (.int .i64 99) (.int .i64 99) (.bool true))
              have kx3 := cell_set (cell_set (cell_set kx2 hxB (i := 8) (.int .i64 99)) hxB (i := 1) (.int .i64 99)) hxB (i := 4) (.bool true)
              have H3 := Lib.hid ((H'.out.gro gB).ke K3.out (fun j hj q => by have := (H'.out.jb.lt hj).2; omega) (fun j q => by have := H'.out.gr.size; omega))
              have C := Lib.hid (ids_jb H3.out.jb)
              have hS12 : (S'.map Tk.id).length ≤ 12 := by rw [List.length_map]; exact jw_len H'.out
              have GB := Lib.hid gB
              have HB := Lib.hid hB
              clear kx2 b11 gB hB kx' CT hbx hbd
              go_wp2_with fail
              refine C.out.mono ?_
              rintro e w4 ⟨u, rfl, r4, g4⟩
              obtain ⟨xa, ca2, rfl⟩ := rowI_form r4
              obtain ⟨L, hL⟩ : ∃ L, L = (S'.map Tk.id).length := ⟨_, rfl⟩
              have OR : Hid (OwR ((((wc.setCell ⟨B, 8, none⟩ (.int .i64 99)).setCell ⟨B, 1, none⟩ (.int .i64 99)).setCell ⟨B, 4, none⟩ (.bool true))) w4 (.slice xa L ca2) L w4) := by
                rw [hL]
                exact ⟨_, r4, Ke.refl _ _⟩
              have G4 := Lib.hid g4
              rw [← hL] at hS12
              rw [← hL]
              clear r4 g4 C hL v8 v1 v4 u8 u1 u4 kx3 H3
              go_wp2_with fail
              go_loopg [15] L (fun kx5 s15 wz => ∃ q : Nat, s15 = .int .i64 q ∧ q ≤ L ∧ L - q ≤ kx5 ∧ Aside (OwR ((((wc.setCell ⟨B, 8, none⟩ (.int .i64 99)).setCell ⟨B, 1, none⟩ (.int .i64 99)).setCell ⟨B, 4, none⟩ (.bool true))) w4 (.slice xa L ca2) L wz))
              case atStart => exact ⟨0, rfl, by omega, by omega, OR.out⟩
              case round =>
                obtain ⟨q, rfl, hq, hqx, HR⟩ := hrel
                by_cases hql : q < L
                · have hqz : (q : Int) < (L : Int) := by omega
                  obtain ⟨f, row, kk⟩ := HR.out
                  obtain ⟨g, cap, hv, _⟩ := Row.form row (by omega)
                  cases hv
                  have cq := Row.cell row q (by omega)
                  have zq := Row.frozen row q
                  have HN := Lib.hid (Row.set row q (.int .i64 (-7)))
                  have KN := Lib.hid (kk.set (p := ⟨g, q, none⟩) (.inl rfl) (.int .i64 (-7)))
                  clear row kk
                  go_wp2_with fail
                  go_roundg (L - (q + 1))
                  case measure => omega
                  case rel => exact ⟨q + 1, by go_num, by omega, Nat.le_refl _, ⟨_, HN.out, KN.out⟩⟩
                · have hqz : ¬ (q : Int) < (L : Int) := by omega
                  obtain ⟨f, row, kk⟩ := HR.out
                  have EN := Lib.hid (hands_end FF.out (by rw [← HS'.out]; exact H'.out) HCC.out SV.out GB.out HB.out K3.out G4.out kk (fun j hj => (Row.lt row hj).1) DD.out)
                  clear row kk HR OR
                  go_wp2_with fail
                  go_roundg (2 - (k + 1))
                  case measure => omega
                  case rel => exact ⟨k + 1, by go_num, by omega, Nat.le_refl _, EN.out.1, EN.out.2⟩
        · have hkz : ¬ (k : Int) < 2 := by omega
          obtain rfl : k = 2 := by omega
          have HB2 := Lib.hid (hands_both HK.out.1)
          clear HK
          go_wp2_with fail
          go_roundg (n - (m + 1))
          case measure => omega
          case rel => exact ⟨m + 1, by go_num, by go_num, by omega, Nat.le_refl _, ⟨_, HB2.out⟩⟩
    · have hltz : ¬ (m : Int) < (n : Int) := by omega
      obtain ⟨S, ow⟩ := HI.out
      obtain ⟨ca, cb, Fa', Fb', ha, hb, dj, ka, kb⟩ := ow
      have HA := Lib.hid ha
      have HB := Lib.hid hb
      have C := Lib.hid (ids_jb ha.jb)
      clear HI ha hb dj ka kb
      go_wp2_with fail
      refine C.out.mono ?_
      rintro e w3 ⟨u, rfl, r3, g3⟩
      have HA3 := Lib.hid (HA.out.gro g3)
      have HB3 := Lib.hid (HB.out.gro g3)
      have R3 := Lib.hid r3
      have C := Lib.hid (ids_jb HB3.out.jb)
      obtain ⟨xa, ca2, rfl⟩ := rowI_form r3
      obtain ⟨L, hL⟩ : ∃ L, L = (S.map Tk.id).length := ⟨_, rfl⟩
      rw [← hL]
      have HL := Lib.hid hL
      clear r3 g3 HA HB hL
      go_wp2_with fail
      refine C.out.mono ?_
      rintro e w4 ⟨u4, rfl, r4, g4⟩
      have C := Lib.hid (ints_any (rowI_gr R3.out g4) r4)
      rw [show decide (S.map Tk.id = S.map Tk.id) = true by simp, ← HL.out] at C
      have HA4 := Lib.hid (HA3.out.gro g4)
      have HB4 := Lib.hid (HB3.out.gro g4)
      have R4 := Lib.hid (rowI_gr R3.out g4)
      clear r4 g4 HA3 HB3 R3
      go_wp2_with fail
      refine C.out.mono ?_
      rintro e w5 ⟨rfl, g5⟩
      have HA5 := Lib.hid (HA4.out.gro g5)
      have HB5 := Lib.hid (HB4.out.gro g5)
      have R5 := Lib.hid (rowI_gr R4.out g5)
      have hS12 : L ≤ 12 := by rw [HL.out, List.length_map]; exact jw_len HA5.out
      clear g5 C HA4 HB4 R4
      go_wp2_with fail
      go_loopg [17] L (fun kx5 s17 wz => ∃ i : Nat, s17 = .int .i64 i ∧ i ≤ L ∧ L - i ≤ kx5 ∧ Aside (Gr w5 wz))
      case atStart => exact ⟨0, rfl, by omega, by omega, Ke.refl _ _⟩
      case round =>
        obtain ⟨i, rfl, hi, hix, GZ⟩ := hrel
        by_cases hil : i < L
        · have hilz : (i : Int) < (L : Int) := by omega
          have row := rowI_gr R5.out GZ.out
          have HA6 := Lib.hid (HA5.out.gro GZ.out)
          have HB6 := Lib.hid (HB5.out.gro GZ.out)
          obtain ⟨g, cap, hv, _⟩ := Row.form row (by rw [← HL.out]; omega)
          cases hv
          have hiS : i < S.length := by have := HL.out; rw [List.length_map] at this; omega
          have ci := Row.cell row i (by rw [← HL.out]; omega)
          have ex : (S.map Tk.id).getD i 0 = (S[i]).id := by rw [List.getD_eq_getElem?_getD, List.getElem?_map, List.getElem?_eq_getElem hiS]; rfl
          unfold iR at ci
          rw [ex] at ci
          have hmem := List.getElem_mem hiS
          have hget := getT_some (jw_srt HA6.out) hmem
          have hwf := jw_wf HA6.out _ hmem
          have CA := Lib.hid (jw_task HA6.out _ hwf)
          have CB := Lib.hid (fun W (G : Gr wr W) => jw_task (HB6.out.gro G) _ hwf)
          unfold TkQ at CA CB
          rw [hget] at CA CB
          simp only [aggT, Option.getD_some, Option.isSome_some] at CA CB
          generalize S[i] = X at *
          obtain ⟨a0, a1, a2, b3, b4, b5, b6, a7, a8, b9, a10⟩ := X
          simp only at CA CB ci
          have heq := eqTx a0 a1 a2 b3 b4 b5 b6 a7 a8 b9 a10
          have d0 : (a0 != a0) = false := by simp
          clear row hmem hget hwf ex HA6 HB6
          go_wp2_with fail
          refine CA.out.mono ?_
          rintro e w6 ⟨rfl, g6⟩
          replace ci := Ca.gcell g6 ci
          have hgl : g < w6.heap.size := by have := Ca.lt_of_cell ci; simpa using this
          have b6g : Gr wr (w6.alloc (.cells #[.int .i64 a0, .int .i64 a1, .int .i64 a2, .bool b3, .bool b4, .bool b5, .bool b6, .int .i64 a7, .int .i64 a8, .bool b9, .int .i64 a10] 49)) := g6.alloc _
          have G6 := Lib.hid b6g
          clear g6 CA b6g
          go_wp2_with fail
          refine (CB.out _ G6.out).mono ?_
          rintro e w7 ⟨rfl, g7⟩
          have m0 := Ca.gcell (a := ⟨w6.heap.size, 0, none⟩) (v := .int .i64 a0) g7 (by simp [go_sem])
          have m1 := Ca.gcell (a := ⟨w6.heap.size, 1, none⟩) (v := .int .i64 a1) g7 (by simp [go_sem])
          have m2 := Ca.gcell (a := ⟨w6.heap.size, 2, none⟩) (v := .int .i64 a2) g7 (by simp [go_sem])
          have m3 := Ca.gcell (a := ⟨w6.heap.size, 3, none⟩) (v := .bool b3) g7 (by simp [go_sem])
          have m4 := Ca.gcell (a := ⟨w6.heap.size, 4, none⟩) (v := .bool b4) g7 (by simp [go_sem])
          have m5 := Ca.gcell (a := ⟨w6.heap.size, 5, none⟩) (v := .bool b5) g7 (by simp [go_sem])
          have m6 := Ca.gcell (a := ⟨w6.heap.size, 6, none⟩) (v := .bool b6) g7 (by simp [go_sem])
          have m7 := Ca.gcell (a := ⟨w6.heap.size, 7, none⟩) (v := .int .i64 a7) g7 (by simp [go_sem])
          have m8 := Ca.gcell (a := ⟨w6.heap.size, 8, none⟩) (v := .int .i64 a8) g7 (by simp [go_sem])
          have m9 := Ca.gcell (a := ⟨w6.heap.size, 9, none⟩) (v := .bool b9) g7 (by simp [go_sem])
          have m10 := Ca.gcell (a := ⟨w6.heap.size, 10, none⟩) (v := .int .i64 a10) g7 (by simp [go_sem])
          have ci7 := Ca.gcell g7 (Ca.gcell ((Ke.refl (fun _ => False) w6).alloc (.cells #[.int .i64 a0, .int .i64 a1, .int .i64 a2, .bool b3, .bool b4, .bool b5, .bool b6, .int .i64 a7, .int .i64 a8, .bool b9, .int .i64 a10] 49)) ci)
          have G7 := Lib.hid (G6.out.trans (g7.alloc (.cells #[.int .i64 a0, .int .i64 a1, .int .i64 a2, .bool b3, .bool b4, .bool b5, .bool b6, .int .i64 a7, .int .i64 a8, .bool b9, .int .i64 a10] 49)))
          obtain ⟨w8, hw8⟩ : ∃ w8, w8 = w7.alloc (.cells #[.int .i64 a0, .int .i64 a1, .int .i64 a2, .bool b3, .bool b4, .bool b5, .bool b6, .int .i64 a7, .int .i64 a8, .bool b9, .int .i64 a10] 49) := ⟨_, rfl⟩
          have g8 : Gr w7 w8 := by rw [hw8]; exact (Ke.refl _ _).alloc _
          have r0 : w8.cell? ⟨w7.heap.size, 0, none⟩ = some (.int .i64 a0) := by rw [hw8]; simp [go_sem]
          have r1 : w8.cell? ⟨w7.heap.size, 1, none⟩ = some (.int .i64 a1) := by rw [hw8]; simp [go_sem]
          have r2 : w8.cell? ⟨w7.heap.size, 2, none⟩ = some (.int .i64 a2) := by rw [hw8]; simp [go_sem]
          have r3 : w8.cell? ⟨w7.heap.size, 3, none⟩ = some (.bool b3) := by rw [hw8]; simp [go_sem]
          have r4 : w8.cell? ⟨w7.heap.size, 4, none⟩ = some (.bool b4) := by rw [hw8]; simp [go_sem]
          have r5 : w8.cell? ⟨w7.heap.size, 5, none⟩ = some (.bool b5) := by rw [hw8]; simp [go_sem]
          have r6 : w8.cell? ⟨w7.heap.size, 6, none⟩ = some (.bool b6) := by rw [hw8]; simp [go_sem]
          have r7 : w8.cell? ⟨w7.heap.size, 7, none⟩ = some (.int .i64 a7) := by rw [hw8]; simp [go_sem]
          have r8 : w8.cell? ⟨w7.heap.size, 8, none⟩ = some (.int .i64 a8) := by rw [hw8]; simp [go_sem]
          have r9 : w8.cell? ⟨w7.heap.size, 9, none⟩ = some (.bool b9) := by rw [hw8]; simp [go_sem]
          have r10 : w8.cell? ⟨w7.heap.size, 10, none⟩ = some (.int .i64 a10) := by rw [hw8]; simp [go_sem]
          replace m0 := Ca.gcell g8 m0
          replace m1 := Ca.gcell g8 m1
          replace m2 := Ca.gcell g8 m2
          replace m3 := Ca.gcell g8 m3
          replace m4 := Ca.gcell g8 m4
          replace m5 := Ca.gcell g8 m5
          replace m6 := Ca.gcell g8 m6
          replace m7 := Ca.gcell g8 m7
          replace m8 := Ca.gcell g8 m8
          replace m9 := Ca.gcell g8 m9
          replace m10 := Ca.gcell g8 m10
          have yc := Ca.gcell g8 ci7
          have HW8 := Lib.hid hw8.symm
          rw [← hw8] at G7
          have EQ := eqTx
          clear hw8 g8 g7 ci ci7 CB G6 heq
          go_upto_region 50 with fail
          rw [HW8.out]
          go_quiet (fail)
          go_wp2_with fail
          go_roundg (L - (i + 1))
          case measure => omega
          case rel => exact ⟨i + 1, by go_num, by omega, Nat.le_refl _, GZ.out.trans (G7.out.drewN _)⟩
        · have hilz : ¬ (i : Int) < (L : Int) := by omega
          have HA6 := Lib.hid (HA5.out.gro GZ.out)
          have HB6 := Lib.hid (HB5.out.gro GZ.out)
          have CA := Lib.hid (jw_task HA6.out id HID.out)
          have CB := Lib.hid (fun W (G : Gr wr W) => jw_task (HB6.out.gro G) id HID.out)
          have GW := Lib.hid HA6.out.gr
          unfold TkQ at CA CB
          simp only [aggT] at CA CB
          generalize (getT S id).getD zeroT = X at *
          generalize (getT S id).isSome = tb at *
          obtain ⟨a0, a1, a2, b3, b4, b5, b6, a7, a8, b9, a10⟩ := X
          simp only at CA CB
          have dtb : (tb == tb) = true := by simp
          clear HA5 HB5 R5 HA6 HB6
          go_wp2_with fail
          refine CA.out.mono ?_
          rintro e w6 ⟨rfl, g6⟩
          have G6 := Lib.hid (g6.alloc (.cells #[.int .i64 a0, .int .i64 a1, .int .i64 a2, .bool b3, .bool b4, .bool b5, .bool b6, .int .i64 a7, .int .i64 a8, .bool b9, .int .i64 a10] 49))
          clear g6 CA
          go_wp2_with fail
          refine (CB.out _ G6.out).mono ?_
          rintro e w7 ⟨rfl, g7⟩
          have G7 := Lib.hid ((GW.out.trans G6.out).trans (g7.alloc (.cells #[.int .i64 a0, .int .i64 a1, .int .i64 a2, .bool b3, .bool b4, .bool b5, .bool b6, .int .i64 a7, .int .i64 a8, .bool b9, .int .i64 a10] 49)))
          clear g7 CB G6
          go_wp2
          go_ret
          exact ⟨by first | rfl | simp, G7.out⟩
end Go.Proofs.YtlpjojegdnconaaDoor
