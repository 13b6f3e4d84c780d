/- The law SeatPlays, walked. -/
import Derived.Test.YtnmdidglfegdcaaDoorG7
import Derived.Deep.QuietTactic
namespace Go.Proofs.YtnmdidglfegdcaaDoor
open Go.RowKit Go.Lib Go.Maps
set_option linter.unusedVariables false
set_option maxRecDepth 100000
set_option maxHeartbeats 4000000

theorem plays_walk (n0 : Int) (hn0 : (Lit.int .i64 n0).wf = true) (a : Option Addr) (n cap : Nat) (w : World) (hcase : ElemsIn w 3 (deCells (w := w)) a n) (hT : Tab w) : Calls Tryd.prog 3 #[.int .i64 n0, .slice a n cap] w fun e w' => e = .returned (.bool true) ∧ Gr w w' := by
  have AW := Lib.hid (awake_true w hT)
  obtain ⟨k, hk⟩ : ∃ k : Nat, min (max n0 1) 64 = (k : Int) := ⟨(min (max n0 1) 64).toNat, by omega⟩
  have hk2 : 1 ≤ k ∧ k ≤ 64 := by omega
  have C := Lib.hid (fun (W : World) (g : Gr w W) => sw_new (k := k) hT g n0 hk)
  have HC := Lib.hid hcase
  clear hT hcase
  by_cases hn : n ≤ 100
  · have dn : decide ((n : Int) > 100) = false := by simp; omega
    have hnz : ¬ (100 : Int) < (n : Int) := by omega
    go_enter Tryd.func3, Tryd.ntmps3
    go_wp2_with fail
    refine AW.out.mono ?_
    rintro e w0 ⟨rfl, g0⟩
    have C1 := Lib.hid (C.out w0 g0)
    clear AW g0
    go_wp2_with fail
    refine C1.out.mono ?_
    rintro e w1 ⟨p, bm, rfl, s1, g1, hp, hb⟩
    have lt1 := s1.lt
    have al := (Ke.refl (fun _ => False) w1).alloc (.cells #[.int .i64 k, .slice none 0 0] 29)
    have P0 : Hid (Py w (w1.alloc (.cells #[.int .i64 k, .slice none 0 0] 29)) p bm w1.heap.size w1.heap.size k 0 (.slice none 0 0) []) := by
      refine ⟨s1.gro al, ⟨Nat.le_refl _, ?_, ?_, fun o => ?_, World.ownsRow_nil _ _ _ _, fun h => (by cases h), by simp⟩, List.Pairwise.nil, by simp, al.size⟩
      · simp [go_sem]
      · simp [go_sem]
      · simp [go_sem]
    obtain ⟨q, hq⟩ : ∃ q, q = w1.heap.size := ⟨_, rfl⟩
    rw [← hq] at P0 lt1
    have HQ := Lib.hid hq
    have gw1 := s1.gr.size
    have hpw := s1.lp
    have hbw := s1.lb
    rw [← hq] at gw1
    clear C C1 s1 g1 al hq
    go_wp2_with fail
    rw [← HQ.out]
    obtain ⟨W0, hW0⟩ : ∃ W0, W0 = w1.alloc (.cells #[.int .i64 k, .slice none 0 0] 29) := ⟨_, rfl⟩
    rw [← hW0] at P0 ⊢
    clear hW0
    go_loopg [8] n (fun kx s8 wr => ∃ i : Nat, s8 = .int .i64 i ∧ i ≤ n ∧ n - i ≤ kx ∧ Aside (∃ v S, Py w wr p bm q q k i v S))
    case atStart => exact ⟨0, rfl, by omega, by omega, _, _, P0.out⟩
    case round =>
      obtain ⟨i, rfl, hi, hix, HI⟩ := hrel
      by_cases hlt : i < n
      · have hltz : (i : Int) < (n : Int) := by omega
        obtain ⟨v, S, py⟩ := HI.out
        obtain ⟨b, off, dd, rfl, hbw2, hdd⟩ : ∃ (b off : Nat) (d : Nat → De w), a = some ⟨b, off, none⟩ ∧ b < w.heap.size ∧ ∀ i, i < n → ∀ j, j < 3 → w.cell? ⟨b, off + i * 3 + j, none⟩ = (deCells (d i))[j]? := by
          rcases HC.out with z | z
          · omega
          · exact z
        obtain ⟨d, hd⟩ : ∃ d, d = dd i := ⟨_, rfl⟩
        have k0 := gcell py.sw.gr (show w.cell? ⟨b, off + i * 3, none⟩ = some (.int .i64 d.o) by have := hdd i hlt 0 (by omega); rw [hd]; simpa [deCells] using this)
        have k1 := gcell py.sw.gr (show w.cell? ⟨b, off + i * 3 + 1, none⟩ = some (.int .i64 d.i) by have := hdd i hlt 1 (by omega); rw [hd]; simpa [deCells] using this)
        have k2 := gcell py.sw.gr (show w.cell? ⟨b, off + i * 3 + 2, none⟩ = some (.slice d.r.a d.r.l.length d.r.c) by have := hdd i hlt 2 (by omega); rw [hd]; simpa [deCells] using this)
        obtain ⟨m, hm⟩ : ∃ m, m = d.r.l.length := ⟨_, rfl⟩
        rw [← hm] at k2
        have HM := Lib.hid hm
        have PY := Lib.hid py
        clear hdd hd py HI hm
        go_upto_region 13 with fail
        have al := (Ke.refl (fun _ => False) wr).alloc (.cells #[.int .i64 d.o, .int .i64 d.i, .slice d.r.a m d.r.c] 32)
        obtain ⟨B, hB⟩ : ∃ B, B = wr.heap.size := ⟨_, rfl⟩
        have d0 : (wr.alloc (.cells #[.int .i64 d.o, .int .i64 d.i, .slice d.r.a m d.r.c] 32)).cell? ⟨B, 0, none⟩ = some (.int .i64 d.o) := by rw [hB]; simp [go_sem]
        have d1 : (wr.alloc (.cells #[.int .i64 d.o, .int .i64 d.i, .slice d.r.a m d.r.c] 32)).cell? ⟨B, 1, none⟩ = some (.int .i64 d.i) := by rw [hB]; simp [go_sem]
        have d2 : (wr.alloc (.cells #[.int .i64 d.o, .int .i64 d.i, .slice d.r.a m d.r.c] 32)).cell? ⟨B, 2, none⟩ = some (.slice d.r.a m d.r.c) := by rw [hB]; simp [go_sem]
        have PY1 := Lib.hid (PY.out.gr al)
        have hqB : q < B ∧ (∀ j, v.ownBlock = some j → j < B) := ⟨by rw [hB]; exact lt_of_cell PY.out.rf.c0, fun j hj => by rw [hB]; exact (Row.lt PY.out.rf.row hj).2⟩
        have hpB : p < B ∧ bm < B := by rw [hB]; exact PY.out.sw.lt
        obtain ⟨W1, hW1⟩ : ∃ W1, W1 = wr.alloc (.cells #[.int .i64 d.o, .int .i64 d.i, .slice d.r.a m d.r.c] 32) := ⟨_, rfl⟩
        rw [← hW1] at d0 d1 d2 PY1 ⊢
        rw [← hB]
        have HB1 : Hid (B < W1.heap.size) := lt_of_cell d0
        clear hW1 hB al k0 k1 k2
        by_cases h1 : m ≤ 80
        · have dm : decide ((m : Int) > 80) = false := by simp; omega
          have dmz : ¬ (80 : Int) < (m : Int) := by omega
          by_cases h5 : d.o = 5
          · have d5 : (d.o == 5) = true := by simp [h5]
            have FS := Lib.hid (sw_forget PY1.out.sw d.i d.hi)
            clear h5
            go_wp2_with fail
            refine FS.out.mono ?_
            rintro e w2 ⟨rfl, s2, k2⟩
            have rf2 := PY1.out.rf.ke k2 (fun z => by have z' : q = bm := z; omega) (fun j hj z => by have z' : j = bm := z; have := (Row.lt PY1.out.rf.row hj).1; omega)
            have e1 := (k2.cell (lt_of_cell d1) (fun z => by have z' : B = bm := z; omega)).trans d1
            have e2 := (k2.cell (lt_of_cell d2) (fun z => by have z' : B = bm := z; omega)).trans d2
            have FR := Lib.hid (forget_rf rf2 (Nat.le_trans PY1.out.bs k2.size) d.i)
            have S2 := Lib.hid s2
            have K2 := Lib.hid k2
            have RF2 := Lib.hid rf2
            have E2 := Lib.hid e2
            clear FS s2 k2 rf2 d0 d1 d2
            go_wp2_with fail
            refine FR.out.mono ?_
            rintro e WC ⟨rfl, v', rf3, k3, ob3⟩
            have s3 := S2.out.ke k3 (fun z => by have z' : p = q := z; omega) (fun z => by have z' : bm = q := z; omega) (fun j z => by have z' : j = q := z; omega)
            rw [← fA_del PY1.out.dis, ← fN_del PY1.out.dis] at s3
            have PC : Hid (Py w WC p bm q q k (i + 1) v' (delS S d.i)) := ⟨s3.more (by omega), rf3, PY1.out.dis.del _, by have := del_len S d.i; have := PY1.out.len; omega, Nat.le_trans PY1.out.bs (Nat.le_trans K2.out.size k3.size)⟩
            have D2 := Lib.hid ((k3.cell (lt_of_cell E2.out) (fun z => by have z' : B = q := z; omega)).trans E2.out)
            obtain ⟨SC, hSC⟩ : ∃ SC, SC = delS S d.i := ⟨_, rfl⟩
            rw [← hSC] at PC
            have e2 := D2.out
            clear FR rf3 k3 ob3 s3 S2 K2 RF2 E2 e1 hSC
            go_wp2_with fail
            go_loopg [15] m (fun kx s15 wv => ∃ j : Nat, s15 = .int .i64 j ∧ j ≤ m ∧ m - j ≤ kx ∧ Aside (Gr WC wv))
            case atStart => exact ⟨0, rfl, by omega, by omega, Ke.refl _ _⟩
            case round =>
              obtain ⟨j, rfl, hj, hjx, HJ⟩ := hrel
              by_cases hjl : j < m
              · have hjz : (j : Int) < (m : Int) := by omega
                have GJ := HJ.out
                obtain ⟨br, or, ear, inr⟩ := d.r.cel (PC.out.sw.gr.trans GJ) (by rw [← HM.out]; omega)
                have kx := inr j (by rw [← HM.out]; exact hjl)
                obtain ⟨x, hx⟩ : ∃ x, x = d.r.l.getD j 0 := ⟨_, rfl⟩
                have hxm : x ∈ d.r.l := by rw [hx]; exact getD_mem' (by rw [← HM.out]; exact hjl)
                have hxw := d.r.hwf x hxm
                rw [← hx] at kx
                have e2 := gcell GJ D2.out
                rw [ear] at e2
                have L1 := Lib.hid (sw_last (PC.out.sw.gro GJ) x hxw)
                obtain ⟨oA, hoA⟩ : ∃ oA, oA = fA SC x := ⟨_, rfl⟩
                rw [← hoA] at L1
                have HOA := Lib.hid hoA
                have GJH := Lib.hid GJ
                have E2 := Lib.hid e2
                have KX := Lib.hid kx
                clear ear inr hx hxm hoA GJ HJ
                go_wp2_with fail
                refine L1.out.mono ?_
                rintro e w5 ⟨rfl, g5⟩
                have L2 := Lib.hid (last_fa (PC.out.rf.gr (GJH.out.trans g5)) x)
                rw [← HOA.out] at L2
                have e3 := gcell g5 E2.out
                have kx3 := gcell g5 KX.out
                have G5 := Lib.hid (GJH.out.trans g5)
                clear L1 g5 e2 kx
                go_wp2_with fail
                refine L2.out.mono ?_
                rintro e w6 ⟨rfl, g6⟩
                have G6 := Lib.hid (G5.out.trans g6)
                clear L2 g6 e3 kx3
                obtain ⟨z, hz⟩ : ∃ z : Int, z = ((oA.getD 0 : Nat) : Int) := ⟨_, rfl⟩
                rw [← hz]
                obtain ⟨bb, hbb⟩ : ∃ bb : Bool, bb = oA.isSome := ⟨_, rfl⟩
                rw [← hbb]
                have dz : (z != z) = false := by simp
                have db : (bb != bb) = false := by simp
                clear hz hbb
                go_wp2_with fail
                go_roundg (m - (j + 1))
                case measure => omega
                case rel => exact ⟨j + 1, by go_num, by omega, Nat.le_refl _, G6.out⟩
              · have hjz : ¬ (j : Int) < (m : Int) := by omega
                have e2 := gcell HJ.out D2.out
                have GJ := Lib.hid HJ.out
                clear HJ
                go_wp2_with fail
                go_roundg (n - (i + 1))
                case measure => omega
                case rel => exact ⟨i + 1, by go_num, by omega, Nat.le_refl _, _, _, PC.out.gr GJ.out⟩
          · have d5 : (d.o == 5) = false := by simpa using h5
            clear h5
            have hin : IdIn W1 (.slice d.r.a m d.r.c) d.r.l := by rw [HM.out]; exact d.r.hin.gr PY1.out.sw.gr
            have hof : Off (.slice d.r.a m d.r.c) p bm := by rw [HM.out]; exact off_in d.r.hin PY1.out.sw.lp PY1.out.sw.lb
            have SS := Lib.hid (sw_sit PY1.out.sw hin hof (by have := HM.out; omega) d.r.hwf (by omega))
            obtain ⟨ee, hee⟩ : ∃ ee, ee = sitE k d.r.l := ⟨_, rfl⟩
            rw [← hee] at SS
            have HEE := Lib.hid hee
            have D2W := Lib.hid d2
            clear hin hof hee
            go_wp2_with fail
            refine SS.out.mono ?_
            rintro e w2 ⟨u, rfl, row2, s2, k2⟩
            have kb : ∀ j, (j = p ∨ j = bm) → ¬ q ≤ j := fun j z => by omega
            have rf2 := PY1.out.rf.ke k2 (fun z => kb q z (Nat.le_refl _)) (fun j hj z => kb j z (Row.lt PY1.out.rf.row hj).1)
            have e2 := (k2.cell (lt_of_cell D2W.out) (fun z => by rcases z with z | z <;> (simp only at z; omega))).trans D2W.out
            have hin2 : IdIn w2 (.slice d.r.a m d.r.c) d.r.l := by rw [HM.out]; exact d.r.hin.gr s2.gr
            have hoff : ∀ b off n c, Value.slice d.r.a m d.r.c = .slice (some ⟨b, off, none⟩) n c → 0 < n → ¬ (b = q ∨ v.ownBlock = some b) := fun b off n c e hn z => by
              have h1 : b < w.heap.size := by
                obtain ⟨a', c', e', h⟩ := d.r.hin
                injection e with ea em ec
                injection e' with ea' em' ec'
                subst em
                rcases h with h | ⟨b', off', hb', h⟩
                · rw [HM.out, h] at hn; simp at hn
                · rw [ea] at ea'
                  rw [← ea'] at hb'
                  cases hb'
                  have := lt_of_cell (h 0 (by rw [← HM.out]; exact hn))
                  exact this
              rcases z with z | z
              · omega
              · have := (Row.lt PY1.out.rf.row z).1; omega
            have SR := Lib.hid (sit_rf rf2 PY1.out.dis PY1.out.sw.ok hk2.1 hk2.2 (Nat.le_trans PY1.out.bs k2.size) (by have := PY1.out.len; omega) hin2 hoff (by have := HM.out; omega))
            obtain ⟨xu, cu, eu⟩ := rowI_form row2
            subst eu
            obtain ⟨RL, hRL⟩ : ∃ RL, RL = sitR k (fA S) (fN S) d.r.l := ⟨_, rfl⟩
            rw [← hRL] at row2
            obtain ⟨nx, hnx⟩ : ∃ nx, nx = RL.length := ⟨_, rfl⟩
            have hnx80 : nx ≤ 80 := by
              rw [hnx, hRL]
              by_cases hz : sitE k d.r.l = 0
              · rw [sitR_length hz, ← HM.out]; exact h1
              · rw [sitR_none hz]; simp
            rw [← hRL, ← hnx]
            have HRL := Lib.hid hRL
            have HNX := Lib.hid hnx
            have R2 := Lib.hid row2
            have S2 := Lib.hid s2
            have E2 := Lib.hid e2
            have W12 := k2.size
            clear SS k2 rf2 row2 s2 hin2 hoff hRL hnx d2 d0 d1
            go_wp2_with fail
            refine SR.out.mono ?_
            rintro e WC ⟨u2, rfl, row3, v', S', rf3, dis3, fa3, fn3, len3, k3⟩
            rw [← HRL.out] at row3
            rw [← HEE.out]
            obtain ⟨xv, cv, ev⟩ := rowI_form row3
            subst ev
            rw [← HNX.out]
            have hown : ∀ j, (j = q ∨ v.ownBlock = some j) → q ≤ j ∧ j < B := fun j z => by
              rcases z with z | z
              · exact ⟨by omega, by omega⟩
              · exact ⟨(Row.lt PY1.out.rf.row z).1, hqB.2 j z⟩
            have s3 := S2.out.ke k3 (fun z => by have := hown p z; omega) (fun z => by have := hown bm z; omega) (fun j z => by have := hown j z; omega)
            rw [← fa3, ← fn3] at s3
            have PC : Hid (Py w WC p bm q q k (i + 1) v' S') := ⟨s3, rf3, dis3, by have := PY1.out.len; have := HM.out; omega, Nat.le_trans PY1.out.bs (Nat.le_trans W12 k3.size)⟩
            have D2 := Lib.hid ((k3.cell (lt_of_cell E2.out) (fun z => by have := hown B z; omega)).trans E2.out)
            have RX := Lib.hid (R2.out.keep (w' := WC) (fun g hg => k3.block g (Row.lt R2.out hg).2 (fun z => by have := hown g z; have := (Row.lt R2.out hg).1; have := HB1.out; omega)))
            have R3 := Lib.hid row3
            obtain ⟨SC, hSC⟩ : ∃ SC, SC = S' := ⟨_, rfl⟩
            rw [← hSC] at PC
            have e2 := D2.out
            have de : (ee != ee) = false := by simp
            have dn2 : ((nx : Int) != (nx : Int)) = false := by simp
            clear SR row3 rf3 dis3 fa3 fn3 len3 k3 s3 hSC E2
            go_wp2_with fail
            go_loopg [14] nx (fun kx s14 wv => ∃ j : Nat, s14 = .int .i64 j ∧ j ≤ nx ∧ nx - j ≤ kx ∧ Aside (Gr WC wv))
            case atStart => exact ⟨0, rfl, by omega, by omega, Ke.refl _ _⟩
            case round =>
              obtain ⟨j, rfl, hj, hjx, HJ⟩ := hrel
              by_cases hjl : j < nx
              · have hjz : (j : Int) < (nx : Int) := by omega
                obtain ⟨gu, cu', eu, -⟩ := Row.form RX.out (by rw [← HNX.out]; omega)
                obtain ⟨exu, ecu⟩ : xu = some ⟨gu, 0, none⟩ ∧ cu = cu' := by injection eu with a b c; exact ⟨a, c⟩
                clear eu
                subst exu ecu
                obtain ⟨gv, cv', ev, -⟩ := Row.form R3.out (by rw [← HNX.out]; omega)
                obtain ⟨exv, ecv⟩ : xv = some ⟨gv, 0, none⟩ ∧ cv = cv' := by injection ev with a b c; exact ⟨a, c⟩
                clear ev
                subst exv ecv
                have ka := gcell HJ.out (rowI_cell RX.out rfl j (by rw [← HNX.out]; exact hjl))
                have kb2 := gcell HJ.out (rowI_cell R3.out rfl j (by rw [← HNX.out]; exact hjl))
                obtain ⟨z, hz⟩ : ∃ z, z = RL.getD j 0 := ⟨_, rfl⟩
                rw [← hz] at ka kb2
                have dz : (z != z) = false := by simp
                have GJ := Lib.hid HJ.out
                clear hz HJ
                go_wp2_with fail
                go_quiet (fail)
                go_wp2_with fail
                go_roundg (nx - (j + 1))
                case measure => omega
                case rel => exact ⟨j + 1, by go_num, by omega, Nat.le_refl _, GJ.out.trans ((Ke.refl _ _).drewN _)⟩
              · have hjz : ¬ (j : Int) < (nx : Int) := by omega
                have PC := Lib.hid (PC.out.gr HJ.out)
                have D2 := Lib.hid (gcell HJ.out D2.out)
                have e2 := D2.out
                obtain ⟨WD, hWD⟩ : ∃ WD, WD = wr := ⟨_, rfl⟩
                rw [← hWD] at PC D2 e2 ⊢
                clear HJ hWD
                go_wp2_with fail
                go_loopg [15] m (fun kx s15 wv => ∃ j : Nat, s15 = .int .i64 j ∧ j ≤ m ∧ m - j ≤ kx ∧ Aside (Gr WD wv))
                case atStart => exact ⟨0, rfl, by omega, by omega, Ke.refl _ _⟩
                case round =>
                  obtain ⟨j, rfl, hj, hjx, HJ⟩ := hrel
                  by_cases hjl : j < m
                  · have hjz : (j : Int) < (m : Int) := by omega
                    have GJ := HJ.out
                    obtain ⟨br, or, ear, inr⟩ := d.r.cel (PC.out.sw.gr.trans GJ) (by rw [← HM.out]; omega)
                    have kx := inr j (by rw [← HM.out]; exact hjl)
                    obtain ⟨x, hx⟩ : ∃ x, x = d.r.l.getD j 0 := ⟨_, rfl⟩
                    have hxm : x ∈ d.r.l := by rw [hx]; exact getD_mem' (by rw [← HM.out]; exact hjl)
                    have hxw := d.r.hwf x hxm
                    rw [← hx] at kx
                    have e2 := gcell GJ D2.out
                    rw [ear] at e2
                    have L1 := Lib.hid (sw_last (PC.out.sw.gro GJ) x hxw)
                    obtain ⟨oA, hoA⟩ : ∃ oA, oA = fA SC x := ⟨_, rfl⟩
                    rw [← hoA] at L1
                    have HOA := Lib.hid hoA
                    have GJH := Lib.hid GJ
                    have E2 := Lib.hid e2
                    have KX := Lib.hid kx
                    clear ear inr hx hxm hoA GJ HJ
                    go_wp2_with fail
                    refine L1.out.mono ?_
                    rintro e w5 ⟨rfl, g5⟩
                    have L2 := Lib.hid (last_fa (PC.out.rf.gr (GJH.out.trans g5)) x)
                    rw [← HOA.out] at L2
                    have e3 := gcell g5 E2.out
                    have kx3 := gcell g5 KX.out
                    have G5 := Lib.hid (GJH.out.trans g5)
                    clear L1 g5 e2 kx
                    go_wp2_with fail
                    refine L2.out.mono ?_
                    rintro e w6 ⟨rfl, g6⟩
                    have G6 := Lib.hid (G5.out.trans g6)
                    clear L2 g6 e3 kx3
                    obtain ⟨z, hz⟩ : ∃ z : Int, z = ((oA.getD 0 : Nat) : Int) := ⟨_, rfl⟩
                    rw [← hz]
                    obtain ⟨bb, hbb⟩ : ∃ bb : Bool, bb = oA.isSome := ⟨_, rfl⟩
                    rw [← hbb]
                    have dz : (z != z) = false := by simp
                    have db : (bb != bb) = false := by simp
                    clear hz hbb
                    go_wp2_with fail
                    go_roundg (m - (j + 1))
                    case measure => omega
                    case rel => exact ⟨j + 1, by go_num, by omega, Nat.le_refl _, G6.out⟩
                  · have hjz : ¬ (j : Int) < (m : Int) := by omega
                    have e2 := gcell HJ.out D2.out
                    have GJ := Lib.hid HJ.out
                    clear HJ
                    go_wp2_with fail
                    go_roundg (n - (i + 1))
                    case measure => omega
                    case rel => exact ⟨i + 1, by go_num, by omega, Nat.le_refl _, _, _, PC.out.gr GJ.out⟩
        · have dm : decide ((m : Int) > 80) = true := by simp; omega
          have dmz : (80 : Int) < (m : Int) := by omega
          go_wp2_with fail
          go_ret
          exact ⟨rfl, PY1.out.sw.gr⟩
      · have hltz : ¬ (i : Int) < (n : Int) := by omega
        obtain ⟨v, S, py⟩ := HI.out
        have PY := Lib.hid py
        clear HI py
        go_wp2_with fail
        go_ret
        exact ⟨rfl, PY.out.sw.gr⟩
  · have hnz : (100 : Int) < (n : Int) := by omega
    have dn : decide ((n : Int) > 100) = true := by simp; omega
    clear HC
    go_enter Tryd.func3, Tryd.ntmps3
    go_wp2_with fail
    refine AW.out.mono ?_
    rintro e w0 ⟨rfl, g0⟩
    have G0 := Lib.hid g0
    clear AW g0 C
    go_wp2_with fail
    go_ret
    exact ⟨rfl, G0.out⟩
end Go.Proofs.YtnmdidglfegdcaaDoor
