/- The law SeatOrders, walked. -/
import Derived.Test.YtnmdidglfegdcaaDoorE3
import Derived.Lib.AppendZerosOnto
namespace Go.Proofs.YtnmdidglfegdcaaDoor
open Go.RowKit Go.Lib Go.Maps Go.Sort
set_option linter.unusedVariables false
set_option maxRecDepth 100000
set_option maxHeartbeats 4000000

/-! ### turned round -/
def tIdx (n t z : Nat) : Nat := (n - 1 - z + t) % n
def turn (l : List Int) (t y : Nat) : List Int := (List.range y).map fun z => l.getD (tIdx l.length t z) 0
theorem turn_next (l : List Int) (t y : Nat) : turn l t (y + 1) = turn l t y ++ [l.getD (tIdx l.length t y) 0] := by unfold turn; rw [List.range_succ, List.map_append]; rfl
theorem turn_length (l : List Int) (t y : Nat) : (turn l t y).length = y := by simp [turn]
theorem tIdx_lt {n t z : Nat} (h : 0 < n) : tIdx n t z < n := Nat.mod_lt _ h
theorem tIdx_inj {n t a b : Nat} (ha : a < n) (hb : b < n) (h : tIdx n t a = tIdx n t b) : a = b := by
  have key : ∀ a b, a < b → b < n → tIdx n t a = tIdx n t b → False := fun a b hab hb h => by
    unfold tIdx at h
    have h1 := Nat.sub_mod_eq_zero_of_mod_eq h
    rw [show n - 1 - a + t - (n - 1 - b + t) = b - a by omega, Nat.mod_eq_of_lt (by omega)] at h1
    omega
  rcases Nat.lt_trichotomy a b with q | q | q
  · exact (key a b q hb h).elim
  · exact q
  · exact (key b a q ha h.symm).elim
theorem turn_perm (l : List Int) (t : Nat) : l.Perm (turn l t l.length) := by
  have nd : ((List.range l.length).map (tIdx l.length t)).Nodup := by
    refine List.pairwise_map.2 ?_
    refine List.Pairwise.imp_of_mem ?_ List.nodup_range
    intro a b ha hb hne h
    exact hne (tIdx_inj (List.mem_range.1 ha) (List.mem_range.1 hb) h)
  have sub : ∀ x ∈ (List.range l.length).map (tIdx l.length t), x ∈ List.range l.length := fun x hx => by
    obtain ⟨z, hz, rfl⟩ := List.mem_map.1 hx
    exact List.mem_range.2 (tIdx_lt (by have := List.mem_range.1 hz; omega))
  have sup : ∀ x ∈ List.range l.length, x ∈ (List.range l.length).map (tIdx l.length t) := fun x hx => Classical.byContradiction fun q => by
    have nd2 : (x :: (List.range l.length).map (tIdx l.length t)).Nodup := List.nodup_cons.2 ⟨q, nd⟩
    have := nd2.length_le_of_subset (l₂ := List.range l.length) (fun y hy => by
      rcases List.mem_cons.1 hy with e | e
      · rw [e]; exact hx
      · exact sub y e)
    simp only [List.length_cons, List.length_map, List.length_range] at this
    omega
  have hp : (List.range l.length).Perm ((List.range l.length).map (tIdx l.length t)) := (List.perm_ext_iff_of_nodup List.nodup_range nd).2 fun x => ⟨sup x, sub x⟩
  have h2 := hp.map (fun i => l.getD i 0)
  rw [List.map_map] at h2
  have e1 : (List.range l.length).map (fun i => l.getD i 0) = l := by
    refine List.ext_getElem (by simp) fun j h1 h2 => ?_
    have : j < l.length := by simpa using h1
    simp [List.getD_eq_getElem?_getD, this]
  rw [e1] at h2
  exact h2

/-- What is known on the way through the rows. -/
structure Oy (w wr : World) (p bm p2 bm2 k i : Nat) (A : Af) (N : Nf) : Prop where
  s1 : SW w wr p bm k i A N
  s2 : SW w wr p2 bm2 k i A N
theorem orders_walk (m0 m2 : Nat) (h0 : m0 < 256) (h2 : m2 < 256) (a : Option Addr) (n cap : Nat) (w : World) (hcase : ElemsIn w 1 (roCells (w := w)) a n) (hT : Tab w) : Calls Tryd.prog 7 #[.int .u8 m0, .slice a n cap, .int .u8 m2] w fun e w' => e = .returned (.bool true) ∧ Gr w w' := by
  have AW := Lib.hid (awake_true w hT)
  obtain ⟨k, hk⟩ : ∃ k, k = 1 + m0 % 10 := ⟨_, rfl⟩
  have hk2 : 1 ≤ k ∧ k ≤ 64 := by omega
  have e1 : (m0 : Int) % 10 = ((m0 % 10 : Nat) : Int) := by omega
  have e2 : (m0 : Int).tmod 10 = ((m0 % 10 : Nat) : Int) := by rw [Int.tmod_eq_emod_of_nonneg (by omega)]; exact e1
  have e3 : (1 : Int) + ((m0 % 10 : Nat) : Int) = (k : Int) := by omega
  generalize m0 % 10 = r0 at *
  have C := Lib.hid (fun (W : World) (g : Gr w W) => sw_new (k := k) hT g k (by omega))
  have HC := Lib.hid hcase
  clear hT hk hcase
  by_cases hn : n ≤ 40
  · have dn : decide ((n : Int) > 40) = false := by simp; omega
    have hnz : ¬ (40 : Int) < (n : Int) := by omega
    go_enter Tryd.func7, Tryd.ntmps7
    go_wp2_with fail
    refine AW.out.mono ?_
    rintro e w0 ⟨rfl, g0⟩
    have C1 := Lib.hid (C.out w0 g0)
    clear AW g0
    go_wp2_with fail
    refine C1.out.mono ?_
    rintro e w1 ⟨p, bm, rfl, s1, g1, hp, hb⟩
    have S1 := Lib.hid s1
    have lt1 := s1.lt
    have C2 := Lib.hid (C.out w1 s1.gr)
    clear C C1 s1 g1
    go_wp2_with fail
    refine C2.out.mono ?_
    rintro e w2 ⟨p2, bm2, rfl, s2, g2, hp2, hb2⟩
    have S2 := Lib.hid s2
    have lt2 := s2.lt
    have S1' := Lib.hid (S1.out.gro g2)
    clear C2 s2 g2 S1
    go_wp2_with fail
    go_loopg [10] n (fun kx s10 wr => ∃ i : Nat, s10 = .int .i64 i ∧ i ≤ n ∧ n - i ≤ kx ∧ Aside (∃ A N, Oy w wr p bm p2 bm2 k i A N))
    case atStart => exact ⟨0, rfl, by omega, by omega, _, _, S1'.out, S2.out⟩
    case round =>
      obtain ⟨i, rfl, hi, hix, HI⟩ := hrel
      by_cases hlt : i < n
      · have hltz : (i : Int) < (n : Int) := by omega
        obtain ⟨A, N, oy⟩ := HI.out
        obtain ⟨b, off, q, rfl, hbw, hq⟩ : ∃ (b off : Nat) (q : Nat → Ro w), a = some ⟨b, off, none⟩ ∧ b < w.heap.size ∧ ∀ i, i < n → ∀ j, j < 1 → w.cell? ⟨b, off + i * 1 + j, none⟩ = (roCells (q i))[j]? := by
          rcases HC.out with z | z
          · omega
          · exact z
        have rc0 : w.cell? ⟨b, off + i, none⟩ = some (.slice (q i).a (q i).l.length (q i).c) := by
          have := hq i hlt 0 (by omega)
          simpa [roCells] using this
        obtain ⟨r, hr⟩ : ∃ r, r = q i := ⟨_, rfl⟩
        rw [← hr] at rc0
        have rc := gcell oy.s1.gr rc0
        obtain ⟨m, hm⟩ : ∃ m, m = r.l.length := ⟨_, rfl⟩
        rw [← hm] at rc
        have HM := Lib.hid hm
        have OY := Lib.hid oy
        obtain ⟨wb, hwb⟩ : ∃ wb, wb = wr.heap.size := ⟨_, rfl⟩
        obtain ⟨W, hW⟩ : ∃ W, W = wr := ⟨_, rfl⟩
        rw [← hW] at OY hwb
        have GW0 : Hid (Gr W wr) := by rw [hW]; exact Ke.refl _ _
        have ltp := oy.s1.lt
        have ltp2 := oy.s2.lt
        rw [← hW, ← hwb] at ltp ltp2
        have HWB := Lib.hid hwb
        clear hq hr rc0 oy HI hm hW hwb
        by_cases h1 : m ≤ 30
        · have d1 : decide ((m : Int) > 30) = false := by simp; omega
          have d1z : ¬ (30 : Int) < (m : Int) := by omega
          go_wp2_with fail
          go_loopg [12, 13] m (fun kx s12 s13 wv => ∃ y : Nat, s13 = .int .i64 ((m : Int) - 1 - (y : Int)) ∧ y ≤ m ∧ m - y ≤ kx ∧ Aside (RowI wv wb s12 (turn r.l m2 y) ∧ Gr W wv))
          case atStart => exact ⟨0, by simp, by omega, by omega, rowI_nil _ _, GW0.out⟩
          case round =>
            obtain ⟨y, rfl, hy, hyx, HY⟩ := hrel
            by_cases hyl : y < m
            · obtain ⟨jj, hjj⟩ : ∃ jj, jj = m - 1 - y := ⟨_, rfl⟩
              have ej : (m : Int) - 1 - (y : Int) = (jj : Int) := by omega
              obtain ⟨z, hz⟩ : ∃ z, z = (jj + m2) % m := ⟨_, rfl⟩
              have hzm : z < m := by rw [hz]; exact Nat.mod_lt _ (by omega)
              have ez : ((jj : Int) + (m2 : Int)) % (m : Int) = (z : Int) := by rw [hz]; exact (Int.natCast_emod (jj + m2) m).symm
              have ez2 : ((jj : Int) + (m2 : Int)).tmod (m : Int) = (z : Int) := by rw [Int.tmod_eq_emod_of_nonneg (by omega)]; exact ez
              have hj0 : (0 : Int) ≤ (jj : Int) := by omega
              have hzi : Hid (tIdx r.l.length m2 y = z) := by rw [Hid, ← HM.out, hz, hjj]; rfl
              rw [ej]
              obtain ⟨br, or, ear, inr⟩ := r.cells (OY.out.s1.gr.trans HY.out.2) (by rw [← HM.out]; omega)
              have kz := inr z (by rw [← HM.out]; exact hzm)
              obtain ⟨xz, hxz⟩ : ∃ x, x = r.l.getD z 0 := ⟨_, rfl⟩
              rw [← hxz] at kz
              rw [ear]
              have hzb : (0 : Int) ≤ (z : Int) ∧ (z : Int) < (m : Int) := by omega
              obtain ⟨v', w2', hr, row2, k2⟩ := row_app HY.out.1 (by have := HY.out.2.size; have := HWB.out; omega) (by rw [turn_length]; omega) xz
              have HR := Lib.hid (hr 30)
              have R2 := Lib.hid row2
              have G2 : Hid (Gr W w2') := gr_ke HY.out.2 k2 (fun j hj => by have := (Row.lt HY.out.1 hj).1; have := HWB.out; omega)
              have HXZ := Lib.hid hxz
              have EAR := Lib.hid ear
              clear hr row2 k2 inr ear hz hxz hjj
              go_wp2_with (at_builtin; refine Lib.wpList_append_run _ rfl _ _ 30 30 rfl _ _ rfl rfl _ _ HR.out ?_)
              rw [← EAR.out]
              go_roundg (m - (y + 1))
              case measure => omega
              case rel =>
                refine ⟨y + 1, ?_, by omega, Nat.le_refl _, ?_, G2.out⟩
                · congr 1
                  omega
                · rw [turn_next, hzi.out, ← HXZ.out]
                  exact R2.out
            · have hyz : ¬ (m : Int) - 1 - (y : Int) ≥ 0 := by omega
              have dy : decide ((m : Int) - 1 - (y : Int) ≥ 0) = false := by simpa using hyz
              obtain ⟨rowm, gm⟩ := HY.out
              rw [show y = r.l.length by have := HM.out; omega] at rowm
              obtain ⟨ml, hml⟩ : ∃ ml, ml = turn r.l m2 r.l.length := ⟨_, rfl⟩
              rw [← hml] at rowm
              have hperm : Hid (r.l.Perm ml) := by rw [hml]; exact turn_perm r.l m2
              have HML : Hid (ml.length = m) := by rw [Hid, ← hperm.out.length_eq, HM.out]
              have sa := OY.out.s1.gro gm
              have hrin : IdIn wr (.slice r.a m r.c) r.l := by rw [HM.out]; exact r.hin.gr sa.gr
              have hroff : Off (.slice r.a m r.c) p bm := by rw [HM.out]; exact off_in r.hin sa.lp sa.lb
              have C := Lib.hid (sw_sit sa hrin hroff (by have := HM.out; omega) r.hwf (by omega))
              have RM := Lib.hid rowm
              have SB := Lib.hid (OY.out.s2.gro gm)
              have GM := Lib.hid gm
              obtain ⟨ee, hee⟩ : ∃ ee, ee = sitE k r.l := ⟨_, rfl⟩
              rw [← hee] at C
              have HEE := Lib.hid hee
              have OK := Lib.hid sa.ok
              clear HY rowm gm hml sa hrin hroff hee
              go_wp2_with fail
              refine C.out.mono ?_
              rintro e w3 ⟨u, rfl, row3, s3, k3⟩
              obtain ⟨xu, cu, eu⟩ := rowI_form row3
              subst eu
              have ltb := SB.out.lt
              have sb3 := SB.out.ke k3 (by omega) (by omega) (fun j q => by have := OY.out.s1.lp; have := OY.out.s1.lb; rcases q with q | q <;> omega)
              have rm3 := rowI_keep RM.out k3 (fun j hj q => by have := (Row.lt RM.out hj).1; rcases q with q | q <;> omega)
              have D := Lib.hid (sw_sit sb3 (IdIn.of_row rm3) (off_row rm3 (by omega) (by omega)) (by rw [HML.out]; omega) (fun x hx => r.hwf x (hperm.out.mem_iff.2 hx)) (by omega))
              rw [← sitE_perm hperm.out, ← HEE.out] at D
              unfold SitQ at D
              rw [← sitA_perm hperm.out, ← sitN_perm hperm.out] at D
              obtain ⟨nx, hnx⟩ : ∃ nx, nx = (sitR k A N r.l).length := ⟨_, rfl⟩
              have hny : (sitR k A N ml).length = nx := by
                rw [hnx]
                by_cases hz : sitE k r.l = 0
                · rw [sitR_length hz, sitR_length (by rw [← sitE_perm hperm.out]; exact hz), hperm.out.length_eq]
                · rw [sitR_none hz, sitR_none (by rw [← sitE_perm hperm.out]; exact hz)]
              have R3 := Lib.hid row3
              have S3 := Lib.hid s3
              have K3 := Lib.hid k3
              have RM3 := Lib.hid rm3
              have HNY := Lib.hid hny
              have HNX := Lib.hid hnx
              have sz3 := k3.size
              have szm := GM.out.size
              obtain ⟨w3s, hw3s⟩ : ∃ x, x = w3.heap.size := ⟨_, rfl⟩
              rw [← hnx]
              obtain ⟨xm, cm, em⟩ := rowI_form RM.out
              subst em
              clear C row3 s3 k3 sb3 rm3 hny hnx hw3s
              go_wp2_with fail
              refine D.out.mono ?_
              rintro e w4 ⟨u2, rfl, row4, s4, k4⟩
              obtain ⟨xv, cv, ev⟩ := rowI_form row4
              subst ev
              rw [HNY.out]
              have S3' := Lib.hid (S3.out.ke k4 (by omega) (by omega) (fun j q => by have := OY.out.s2.lp; have := OY.out.s2.lb; rcases q with q | q <;> omega))
              have RX := Lib.hid (rowI_keep R3.out k4 (fun j hj q => by have := (Row.lt R3.out hj).1; rcases q with q | q <;> omega))
              have RMM := Lib.hid (rowI_keep RM3.out k4 (fun j hj q => by have := (Row.lt RM3.out hj).1; rcases q with q | q <;> omega))
              rw [HNY.out] at row4
              have R4 := Lib.hid row4
              have S4 := Lib.hid s4
              have de : (ee != ee) = false := by simp
              have dn2 : ((nx : Int) != (nx : Int)) = false := by simp
              have hnx30 : nx ≤ m := by
                rw [HNX.out]
                by_cases hz : sitE k r.l = 0
                · rw [sitR_length hz, HM.out]; exact Nat.le_refl _
                · rw [sitR_none hz]; simp
              clear D row4 s4 k4
              go_wp2_with fail
              go_loopg [18] nx (fun kx s18 wv => ∃ j : Nat, s18 = .int .i64 j ∧ j ≤ nx ∧ nx - j ≤ kx ∧ Aside (Gr w4 wv))
              case atStart => exact ⟨0, rfl, by omega, by omega, Ke.refl _ _⟩
              case round =>
                obtain ⟨j, rfl, hj, hjx, HJ⟩ := hrel
                by_cases hjl : j < nx
                · have hjz : (j : Int) < (nx : Int) := by omega
                  have GJ := HJ.out
                  clear HJ
                  go_wp2_with fail
                  go_loopg [19] nx (fun kx s19 wv => ∃ z : Nat, s19 = .int .i64 z ∧ z ≤ nx ∧ nx - z ≤ kx ∧ Aside (Gr w4 wv))
                  case atStart => exact ⟨0, rfl, by omega, by omega, GJ⟩
                  case round =>
                    obtain ⟨z, rfl, hz, hzx, HZ⟩ := hrel
                    by_cases hzl : z < nx
                    · have hzz : (z : Int) < (nx : Int) := by omega
                      have hz0 : sitE k r.l = 0 := Classical.byContradiction fun q => by
                        have := HNX.out
                        rw [sitR_none q] at this
                        simp at this; omega
                      have hnm : nx = m := by rw [HNX.out, sitR_length hz0, HM.out]
                      have hjm : (j : Int) < (m : Int) := by omega
                      have hzm : (z : Int) < (ml.length : Int) := by have := HML.out; omega
                      have hzy : sitE k ml = 0 := by rw [← sitE_perm hperm.out]; exact hz0
                      have ex : ∀ j', j' < nx → (sitR k A N r.l).getD j' 0 = (((sitA k A N r.l (r.l.getD j' 0)).getD 0 : Nat) : Int) := fun j' hj' => by
                        have : j' < r.l.length := by rw [← HM.out]; omega
                        rw [sitR_eq hk2.2 OK.out hz0]
                        simp [List.getD_eq_getElem?_getD, this]
                      have ey : ∀ j', j' < nx → (sitR k A N ml).getD j' 0 = (((sitA k A N r.l (ml.getD j' 0)).getD 0 : Nat) : Int) := fun j' hj' => by
                        have : j' < ml.length := by rw [HML.out]; omega
                        rw [sitR_eq hk2.2 OK.out hzy, ← sitA_perm hperm.out]
                        simp [List.getD_eq_getElem?_getD, this]
                      obtain ⟨br, or, ear, inr⟩ := r.cells (S4.out.gr.trans HZ.out) (by rw [← HM.out]; omega)
                      have kl := inr j (by rw [← HM.out]; omega)
                      obtain ⟨gu, cu', eu, -⟩ := Row.form RX.out (by rw [← HNX.out]; omega)
                      obtain ⟨exu, ecu⟩ : xu = some ⟨gu, 0, none⟩ ∧ cu = cu' := by injection eu with a b c; exact ⟨a, c⟩
                      clear eu
                      subst exu ecu
                      obtain ⟨gv, cv', ev, -⟩ := Row.form R4.out (by rw [HNY.out]; omega)
                      obtain ⟨exv, -, ecv⟩ : xv = some ⟨gv, 0, none⟩ ∧ nx = (sitR k A N ml).length ∧ cv = cv' := by injection ev with a b c; exact ⟨a, b, c⟩
                      clear ev
                      subst exv ecv
                      obtain ⟨gm, cm', em, -⟩ := Row.form RMM.out (by rw [HML.out]; omega)
                      obtain ⟨exm, -, ecm⟩ : xm = some ⟨gm, 0, none⟩ ∧ ml.length = ml.length ∧ cm = cm' := by injection em with a b c; exact ⟨a, b, c⟩
                      clear em
                      subst exm ecm
                      have kx1 := gcell HZ.out (rowI_cell RX.out rfl j (by rw [← HNX.out]; exact hjl))
                      have ky1 := gcell HZ.out (rowI_cell R4.out HNY.out.symm z (by rw [HNY.out]; exact hzl))
                      have km1 := gcell HZ.out (rowI_cell RMM.out rfl z (by rw [HML.out]; omega))
                      rw [ex j hjl] at kx1
                      rw [ey z hzl] at ky1
                      obtain ⟨lj, hlj⟩ : ∃ x, x = r.l.getD j 0 := ⟨_, rfl⟩
                      obtain ⟨mz, hmz⟩ : ∃ x, x = ml.getD z 0 := ⟨_, rfl⟩
                      rw [← hlj] at kx1 kl
                      rw [← hmz] at ky1 km1
                      have GZ := Lib.hid HZ.out
                      rw [ear]
                      have EAR := Lib.hid ear
                      by_cases heq : lj = mz
                      · rw [← heq] at ky1 km1
                        obtain ⟨cv0, hcv0⟩ : ∃ c : Int, c = (((sitA k A N r.l lj).getD 0 : Nat) : Int) := ⟨_, rfl⟩
                        rw [← hcv0] at kx1 ky1
                        have d1 : (lj == lj) = true := by simp
                        have d2 : (cv0 != cv0) = false := by simp
                        clear hz0 hnm hzy ex ey inr ear hlj hmz heq hcv0 HZ
                        go_wp2_with fail
                        go_quiet (fail)
                        go_wp2_with fail
                        rw [← EAR.out]
                        go_roundg (nx - (z + 1))
                        case measure => omega
                        case rel => exact ⟨z + 1, by go_num, by omega, Nat.le_refl _, GZ.out.trans ((Ke.refl _ _).drewN _)⟩
                      · have d1 : (lj == mz) = false := by simpa using heq
                        clear hz0 hnm hzy ex ey inr ear hlj hmz heq HZ
                        go_wp2_with fail
                        go_quiet (fail)
                        go_wp2_with fail
                        rw [← EAR.out]
                        go_roundg (nx - (z + 1))
                        case measure => omega
                        case rel => exact ⟨z + 1, by go_num, by omega, Nat.le_refl _, GZ.out.trans ((Ke.refl _ _).drewN _)⟩
                    · have hzz : ¬ (z : Int) < (nx : Int) := by omega
                      have GZ := Lib.hid HZ.out
                      clear HZ
                      go_wp2_with fail
                      go_roundg (nx - (j + 1))
                      case measure => omega
                      case rel => exact ⟨j + 1, by go_num, by omega, Nat.le_refl _, GZ.out⟩
                · have hjz : ¬ (j : Int) < (nx : Int) := by omega
                  have GJ := Lib.hid HJ.out
                  clear HJ
                  go_wp2_with fail
                  go_roundg (n - (i + 1))
                  case measure => omega
                  case rel => exact ⟨i + 1, by go_num, by omega, Nat.le_refl _, _, _, S3'.out.gro GJ.out, S4.out.gro GJ.out⟩
        · have d1 : decide ((m : Int) > 30) = true := by simp; omega
          have d1z : (30 : Int) < (m : Int) := by omega
          go_wp2_with fail
          go_ret
          exact ⟨rfl, OY.out.s1.gr.trans GW0.out⟩
      · have hltz : ¬ (i : Int) < (n : Int) := by omega
        obtain ⟨A, N, oy⟩ := HI.out
        have OY := Lib.hid oy
        clear HI oy
        go_wp2_with fail
        go_ret
        exact ⟨rfl, OY.out.s1.gr⟩
  · have hnz : (40 : Int) < (n : Int) := by omega
    have dn : decide ((n : Int) > 40) = true := by simp; omega
    go_enter Tryd.func7, Tryd.ntmps7
    go_wp2_with fail
    refine AW.out.mono ?_
    rintro e w0 ⟨rfl, g0⟩
    have C1 := Lib.hid (C.out w0 g0)
    clear AW g0
    go_wp2_with fail
    refine C1.out.mono ?_
    rintro e w1 ⟨p, bm, rfl, s1, g1, hp, hb⟩
    have S1 := Lib.hid s1
    have lt1 := s1.lt
    have C2 := Lib.hid (C.out w1 s1.gr)
    clear C C1 s1 g1
    go_wp2_with fail
    refine C2.out.mono ?_
    rintro e w2 ⟨p2, bm2, rfl, s2, g2, hp2, hb2⟩
    have S2 := Lib.hid s2
    have lt2 := s2.lt
    have S1' := Lib.hid (S1.out.gro g2)
    clear C2 s2 g2 S1
    go_wp2_with fail
    go_ret
    exact ⟨rfl, S2.out.gr⟩
end Go.Proofs.YtnmdidglfegdcaaDoor
