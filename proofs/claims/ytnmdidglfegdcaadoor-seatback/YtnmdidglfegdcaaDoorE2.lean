/- The law SeatBack, walked. -/
import Derived.Test.YtnmdidglfegdcaaDoorF1
import Derived.Deep.QuietTactic
import Derived.Lib.AppendZerosOnto
namespace Go.Proofs.YtnmdidglfegdcaaDoor
open Go.RowKit Go.Lib Go.Maps Go.Sort
set_option linter.unusedVariables false
set_option maxRecDepth 100000
set_option maxHeartbeats 4000000

/-- The first i ids; those but the one at a. -/
def allL (i : Nat) : List Int := (List.range i).map fun (j : Nat) => 10 + (j : Int)
def resL (a i : Nat) : List Int := ((List.range i).filter fun (j : Nat) => decide (j ≠ a)).map fun (j : Nat) => 10 + (j : Int)
theorem allL_next (i : Nat) : allL (i + 1) = allL i ++ [10 + (i : Int)] := by unfold allL; rw [List.range_succ, List.map_append]; rfl
theorem allL_length (i : Nat) : (allL i).length = i := by simp [allL]
theorem resL_same (a : Nat) : resL a (a + 1) = resL a a := by unfold resL; rw [List.range_succ, List.filter_append, List.map_append]; simp
theorem resL_next {a i : Nat} (h : i ≠ a) : resL a (i + 1) = resL a i ++ [10 + (i : Int)] := by unfold resL; rw [List.range_succ, List.filter_append, List.map_append]; simp [h]
theorem resL_length (a i : Nat) : (resL a i).length ≤ i := by
  unfold resL
  rw [List.length_map]
  exact Nat.le_trans (List.length_filter_le _ _) (by simp)
theorem allL_nodup (i : Nat) : (allL i).Nodup := by
  unfold allL
  refine List.Pairwise.map _ (fun a b h => ?_) List.nodup_range
  omega
theorem resL_nodup (a i : Nat) : (resL a i).Nodup := by
  unfold resL
  refine List.Pairwise.map _ (fun a b h => ?_) (List.nodup_range.filter _)
  omega
theorem mem_allL {i : Nat} {x : Int} : x ∈ allL i ↔ ∃ j, j < i ∧ x = 10 + (j : Int) := by
  unfold allL
  rw [List.mem_map]
  constructor
  · rintro ⟨j, hj, rfl⟩; exact ⟨j, List.mem_range.1 hj, rfl⟩
  · rintro ⟨j, hj, rfl⟩; exact ⟨j, List.mem_range.2 hj, rfl⟩
theorem mem_resL {a i : Nat} {x : Int} : x ∈ resL a i ↔ ∃ j, j < i ∧ j ≠ a ∧ x = 10 + (j : Int) := by
  unfold resL
  rw [List.mem_map]
  constructor
  · rintro ⟨j, hj, rfl⟩
    have := List.mem_filter.1 hj
    exact ⟨j, List.mem_range.1 this.1, by simpa using this.2, rfl⟩
  · rintro ⟨j, hj, hn, rfl⟩; exact ⟨j, List.mem_filter.2 ⟨List.mem_range.2 hj, by simpa using hn⟩, rfl⟩
theorem wf10 {j : Nat} (h : j < 1000) : (Lit.int .i64 (10 + (j : Int))).wf = true := by
  have e1 : IntKind.i64.min = -9223372036854775808 := by decide
  have e2 : IntKind.i64.max = 9223372036854775807 := by decide
  simp [Lit.wf, e1, e2]; omega

theorem back_walk (m0 m1 m2 : Nat) (h0 : m0 < 256) (h1 : m1 < 256) (h2 : m2 < 256) (w : World) (hT : Tab w) : Calls Tryd.prog 6 #[.int .u8 m0, .int .u8 m1, .int .u8 m2] w fun e w' => e = .returned (.bool true) ∧ Gr w w' := by
  have AW := Lib.hid (awake_true w hT)
  obtain ⟨k, hk⟩ : ∃ k, k = 2 + m0 % 10 := ⟨_, rfl⟩
  obtain ⟨a, ha⟩ : ∃ a, a = m1 % k := ⟨_, rfl⟩
  obtain ⟨pn, hpn⟩ : ∃ pn, pn = 1 + m2 % 5 := ⟨_, rfl⟩
  have hk2 : 2 ≤ k ∧ k ≤ 11 := by omega
  have hak : a < k := by rw [ha]; exact Nat.mod_lt _ (by omega)
  have hpn2 : 1 ≤ pn ∧ pn ≤ 5 := by omega
  have e1 : (m0 : Int) % 10 = ((m0 % 10 : Nat) : Int) := by omega
  have e2 : (m0 : Int).tmod 10 = ((m0 % 10 : Nat) : Int) := by rw [Int.tmod_eq_emod_of_nonneg (by omega)]; exact e1
  have e3 : (2 : Int) + ((m0 % 10 : Nat) : Int) = (k : Int) := by omega
  have e4 : (m1 : Int) % (k : Int) = (a : Int) := by rw [ha]; exact (Int.natCast_emod m1 k).symm
  have e5 : (m1 : Int).tmod (k : Int) = (a : Int) := by rw [Int.tmod_eq_emod_of_nonneg (by omega)]; exact e4
  have e6 : (m2 : Int) % 5 = ((m2 % 5 : Nat) : Int) := by omega
  have e7 : (m2 : Int).tmod 5 = ((m2 % 5 : Nat) : Int) := by rw [Int.tmod_eq_emod_of_nonneg (by omega)]; exact e6
  have e8 : (1 : Int) + ((m2 % 5 : Nat) : Int) = (pn : Int) := by omega
  generalize m0 % 10 = r0 at *
  generalize m2 % 5 = r2 at *
  have C := Lib.hid (fun (W : World) (g : Gr w W) => sw_new (k := k) hT g k (by omega))
  clear hT ha hk hpn
  go_enter Tryd.func6, Tryd.ntmps6
  go_wp2_with fail
  refine AW.out.mono ?_
  rintro e w0 ⟨rfl, g0⟩
  have C := Lib.hid (C.out w0 g0)
  clear AW g0
  go_wp2_with fail
  refine C.out.mono ?_
  rintro e w1 ⟨p, bm, rfl, s1, g1, hp, hb⟩
  have S1 := Lib.hid s1
  have lt1 := s1.lt
  clear C s1 g1
  go_wp2_with fail
  go_loopg [9, 10] k (fun kx s9 s10 wr => ∃ i : Nat, s10 = .int .i64 i ∧ i ≤ k ∧ k - i ≤ kx ∧ Aside (RowI wr w1.heap.size s9 (allL i) ∧ Gr w1 wr))
  case atStart => exact ⟨0, rfl, by omega, by omega, rowI_nil _ _, Ke.refl _ _⟩
  case round =>
    obtain ⟨i, rfl, hi, hix, HI⟩ := hrel
    by_cases hlt : i < k
    · have hltz : (i : Int) < (k : Int) := by omega
      obtain ⟨v', w2, hr, row2, k2⟩ := row_app HI.out.1 HI.out.2.size (by rw [allL_length]; omega) (10 + (i : Int))
      have HR := Lib.hid (hr 30)
      have R2 := Lib.hid row2
      have G2 : Hid (Gr w1 w2) := gr_ke HI.out.2 k2 (fun j hj => (Row.lt HI.out.1 hj).1)
      clear hr row2 k2
      go_wp2_with (at_builtin; refine Lib.wpList_append_run _ rfl _ _ 30 30 rfl _ _ rfl rfl _ _ HR.out ?_)
      go_roundg (k - (i + 1))
      case measure => omega
      case rel =>
        refine ⟨i + 1, by go_num, by omega, Nat.le_refl _, ?_, G2.out⟩
        rw [allL_next]
        exact R2.out
    · have hltz : ¬ (i : Int) < (k : Int) := by omega
      obtain rfl : k = i := by omega
      have RA := Lib.hid HI.out.1
      have SA := Lib.hid (S1.out.gro HI.out.2)
      have gA := HI.out.2.size
      have hz0 : sitE k (allL k) = 0 := sitE_zero.2 ⟨by rw [allL_length]; exact Nat.le_refl _, allL_nodup k⟩
      have C := Lib.hid (sw_sit SA.out (IdIn.of_row RA.out) (off_row RA.out lt1.1 lt1.2) (by rw [allL_length]; omega) (fun x hx => by obtain ⟨j, hj, rfl⟩ := mem_allL.1 hx; exact wf10 (by omega)) (by omega))
      rw [hz0] at C
      clear HI S1
      go_wp2_with fail
      refine C.out.mono ?_
      rintro e w2 ⟨u, rfl, rowc, s2, k2⟩
      have OK0 : Ok k (fun _ => none) (fun _ => false) := Ok.begin k
      have hA1 : ∀ j, j < k → ∃ c, sitA k (fun _ => none) (fun _ => false) (allL k) (10 + (j : Int)) = some c := fun j hj => by
        obtain ⟨c, _, _, h⟩ := sit_some (k := k) (A := fun _ => none) (N := fun _ => false) (by omega) OK0 hz0 (mem_allL.2 ⟨j, hj, rfl⟩)
        exact ⟨c, h⟩
      have hcl : sitR k (fun _ => none) (fun _ => false) (allL k) = (allL k).map fun x => (((sitA k (fun _ => none) (fun _ => false) (allL k) x).getD 0 : Nat) : Int) := sitR_eq (by omega) OK0 hz0
      have hN1 : ∀ x, sitN k (fun _ => none) (fun _ => false) (allL k) x = decide (x ∈ allL k) := fun x => sitN_yes (by omega) OK0 hz0
      rw [hcl] at rowc
      generalize sitA k (fun _ => none) (fun _ => false) (allL k) = A1 at *
      generalize sitN k (fun _ => none) (fun _ => false) (allL k) = N1 at *
      obtain ⟨cl, hcl'⟩ : ∃ cl, cl = (allL k).map fun x => (((A1 x).getD 0 : Nat) : Int) := ⟨_, rfl⟩
      rw [← hcl'] at rowc
      have hclen : cl.length = k := by rw [hcl', List.length_map, allL_length]
      have hcg : Hid (∀ j, j < k → cl.getD j 0 = (((A1 (10 + (j : Int))).getD 0 : Nat) : Int)) := fun j hj => by
        rw [hcl']
        simp [allL, List.getD_eq_getElem?_getD, hj]
      obtain ⟨xc, cc, rfl⟩ := rowI_form rowc
      rw [hclen] at rowc
      have RC := Lib.hid rowc
      have S2 := Lib.hid s2
      have HA1 := Lib.hid hA1
      have HN1 := Lib.hid hN1
      have HCL := Lib.hid hclen
      have lt2 := s2.lt
      have gw2 := s2.gr.size
      have k2s := k2.size
      rw [hclen]
      clear C RA SA rowc s2 hA1 hN1 hclen hcl hcl' hz0 OK0 k2
      go_wp2_with fail
      go_loopg [14, 15] k (fun kx s14 s15 wr => ∃ i : Nat, s15 = .int .i64 i ∧ i ≤ k ∧ k - i ≤ kx ∧ Aside (RowI wr w2.heap.size s14 (resL a i) ∧ Gr w2 wr))
      case atStart => exact ⟨0, rfl, by omega, by omega, rowI_nil _ _, Ke.refl _ _⟩
      case round =>
        obtain ⟨i, rfl, hi, hix, HI⟩ := hrel
        by_cases hlt : i < k
        · have hltz : (i : Int) < (k : Int) := by omega
          by_cases hia : i = a
          · have d : ((i : Int) != (a : Int)) = false := by simp; omega
            have HIA := Lib.hid hia
            clear hia
            go_wp2_with fail
            go_roundg (k - (i + 1))
            case measure => omega
            case rel =>
              refine ⟨i + 1, by go_num, by omega, Nat.le_refl _, ?_, HI.out.2⟩
              have := HI.out.1
              rw [HIA.out] at this ⊢
              rw [resL_same]
              exact this
          · have d : ((i : Int) != (a : Int)) = true := by simp; omega
            obtain ⟨v', w3, hr, row3, k3⟩ := row_app HI.out.1 HI.out.2.size (by have := resL_length a i; omega) (10 + (i : Int))
            have HR := Lib.hid (hr 30)
            have R3 := Lib.hid row3
            have G3 : Hid (Gr w2 w3) := gr_ke HI.out.2 k3 (fun j hj => (Row.lt HI.out.1 hj).1)
            have HIA := Lib.hid hia
            clear hr row3 k3 hia
            go_wp2_with (at_builtin; refine Lib.wpList_append_run _ rfl _ _ 30 30 rfl _ _ rfl rfl _ _ HR.out ?_)
            go_roundg (k - (i + 1))
            case measure => omega
            case rel =>
              refine ⟨i + 1, by go_num, by omega, Nat.le_refl _, ?_, G3.out⟩
              rw [resL_next HIA.out]
              exact R3.out
        · have hltz : ¬ (i : Int) < (k : Int) := by omega
          obtain rfl : k = i := by omega
          have RR := Lib.hid HI.out.1
          have S3 := Lib.hid (S2.out.gro HI.out.2)
          have C3 := Lib.hid (rowI_gr RC.out HI.out.2)
          have gA3 := HI.out.2.size
          obtain ⟨R, hR⟩ : ∃ R, R = resL a k := ⟨_, rfl⟩
          rw [← hR] at RR
          have hRl : R.length ≤ k := by rw [hR]; exact resL_length a k
          have HRm : Hid (∀ x ∈ R, ∃ j, j < k ∧ j ≠ a ∧ x = 10 + (j : Int)) := fun x hx => by rw [hR] at hx; exact mem_resL.1 hx
          have hzR : Hid (sitE k R = 0) := sitE_zero.2 ⟨hRl, by rw [hR]; exact resL_nodup a k⟩
          clear HI S2 RC hR
          have HRl := Lib.hid hRl
          obtain ⟨gc, cc', ec, hgc, -⟩ := Row.form C3.out (by rw [HCL.out]; omega)
          obtain ⟨exc, -, ecc⟩ : xc = some ⟨gc, 0, none⟩ ∧ k = cl.length ∧ cc = cc' := by injection ec with a b c; exact ⟨a, b, c⟩
          clear ec
          subst exc ecc
          obtain ⟨xr, cr, er⟩ := rowI_form RR.out
          subst er
          obtain ⟨nR, hnR⟩ : ∃ nR, nR = R.length := ⟨_, rfl⟩
          have HNR := Lib.hid hnR
          rw [← hnR] at hRl RR ⊢
          clear hnR
          go_wp2_with fail
          go_loopg [16] pn (fun kx s16 wr => ∃ i : Nat, s16 = .int .i64 i ∧ i ≤ pn ∧ pn - i ≤ kx ∧ Aside (∃ N', SW w wr p bm k (1 + i) A1 N' ∧ (∀ x ∈ R, N' x = true) ∧ Row wr w2.heap.size 3 1 (.slice xr nR cr) nR (iR R) ∧ (∀ j, j < k → wr.cell? ⟨gc, j, none⟩ = some (.int .i64 (cl.getD j 0)))))
          case atStart =>
            refine ⟨0, rfl, by omega, by omega, N1, S3.out, fun x hx => ?_, (by have h := RR.out; rw [HNR.out] at h ⊢; exact h), fun j hj => ?_⟩
            · obtain ⟨j, hj, _, rfl⟩ := HRm.out x hx
              rw [HN1.out, decide_eq_true (mem_allL.2 ⟨j, hj, rfl⟩)]
            · exact rowI_cell C3.out HCL.out.symm j (by rw [HCL.out]; exact hj)
          case round =>
            obtain ⟨i, rfl, hi, hix, HI⟩ := hrel
            by_cases hlt : i < pn
            · have hltz : (i : Int) < (pn : Int) := by omega
              obtain ⟨N', sw, hN', rowR, hcells⟩ := HI.out
              have rowR' : RowI wr w2.heap.size (.slice xr R.length cr) R := by rw [HNR.out] at rowR; exact rowR
              have hin : IdIn wr (.slice xr nR cr) R := by rw [HNR.out]; exact IdIn.of_row rowR'
              have hof : Off (.slice xr nR cr) p bm := by rw [HNR.out]; exact off_row rowR' (by omega) (by omega)
              have C := Lib.hid (sw_sit sw hin hof (by have := HRl.out; omega) (fun x hx => by obtain ⟨j, hj, _, rfl⟩ := HRm.out x hx; exact wf10 (by omega)) (by omega))
              have keep := sitA_keep (l := R) (by omega) sw.ok hN'
              have hR1 : sitR k A1 N' R = R.map fun x => (((A1 x).getD 0 : Nat) : Int) := by rw [sitR_eq (by omega) sw.ok hzR.out, keep]
              have hN2 : ∀ x ∈ R, sitN k A1 N' R x = true := fun x hx => by rw [sitN_yes (by omega) sw.ok hzR.out]; simp [hx]
              unfold SitQ at C
              rw [hR1, keep, hzR.out] at C
              have LT := sw.lt
              have GS := sw.gr.size
              have RO := Lib.hid rowR
              have HC := Lib.hid hcells
              have HN2 := Lib.hid hN2
              clear HI sw hN' rowR rowR' hcells keep hR1 hN2 hin hof
              go_wp2_with fail
              refine C.out.mono ?_
              rintro e w4 ⟨u4, rfl, rowd, s4, k4⟩
              obtain ⟨Dl, hDl⟩ : ∃ Dl, Dl = R.map fun x => (((A1 x).getD 0 : Nat) : Int) := ⟨_, rfl⟩
              rw [← hDl] at rowd
              have hDlen : Dl.length = nR := by rw [hDl, List.length_map, HNR.out]
              have hDg : Hid (∀ j, j < nR → Dl.getD j 0 = (((A1 (R.getD j 0)).getD 0 : Nat) : Int)) := fun j hj => by
                have hj' : j < R.length := by rw [← HNR.out]; exact hj
                rw [hDl]
                simp [List.getD_eq_getElem?_getD, hj']
              obtain ⟨xd, cd, ed⟩ := rowI_form rowd
              subst ed
              rw [hDlen] at rowd ⊢
              have RD := Lib.hid rowd
              have HDL := Lib.hid hDlen
              have S4 := Lib.hid s4
              have K4 := Lib.hid k4
              clear C rowd hDlen hDl s4 k4
              go_wp2_with fail
              go_loopg [19] nR (fun kx s19 wv => ∃ j : Nat, s19 = .int .i64 j ∧ j ≤ nR ∧ nR - j ≤ kx ∧ Aside (Gr w4 wv))
              case atStart => exact ⟨0, rfl, by omega, by omega, Ke.refl _ _⟩
              case round =>
                obtain ⟨j, rfl, hj, hjx, HJ⟩ := hrel
                by_cases hjl : j < nR
                · have hjz : (j : Int) < (nR : Int) := by omega
                  have hjR : j < R.length := by rw [← HNR.out]; exact hjl
                  obtain ⟨gd, cd', ed, -⟩ := Row.form RD.out (by rw [HDL.out]; omega)
                  obtain ⟨exd, -, ecd⟩ : xd = some ⟨gd, 0, none⟩ ∧ nR = Dl.length ∧ cd = cd' := by injection ed with a b c; exact ⟨a, b, c⟩
                  clear ed
                  subst exd ecd
                  obtain ⟨gr, cr', er, hgr, -⟩ := Row.form RO.out (by omega)
                  obtain ⟨exr, -, ecr⟩ : xr = some ⟨gr, 0, none⟩ ∧ nR = nR ∧ cr = cr' := by injection er with a b c; exact ⟨a, b, c⟩
                  clear er
                  subst exr ecr
                  have kd := gcell HJ.out (rowI_cell RD.out HDL.out.symm j (by rw [HDL.out]; exact hjl))
                  have kr0 := Row.cell RO.out j (by omega)
                  have kr := gcell HJ.out ((K4.out.cell (lt_of_cell kr0) (fun q => by rcases q with q | q <;> (simp only at q; omega))).trans kr0)
                  unfold iR at kr
                  obtain ⟨y, hy⟩ : ∃ y, y = R.getD j 0 := ⟨_, rfl⟩
                  have hym : y ∈ R := by rw [hy, List.getD_eq_getElem?_getD, List.getElem?_eq_getElem hjR]; simp
                  obtain ⟨q, hq, hqa, hyq⟩ := HRm.out y hym
                  have kc0 := HC.out q hq
                  have kc := gcell HJ.out ((K4.out.cell (lt_of_cell kc0) (fun q => by rcases q with q | q <;> (simp only at q; omega))).trans kc0)
                  have hv := hDg.out j hjl
                  rw [← hy, hyq, ← hcg.out q hq] at hv
                  rw [hv] at kd
                  rw [← hy] at kr
                  obtain ⟨x, hx⟩ : ∃ x, x = cl.getD q 0 := ⟨_, rfl⟩
                  rw [← hx] at kd kc
                  have ys : y - 10 = (q : Int) := by omega
                  have yw : IntKind.i64.wrap (q : Int) = (q : Int) := by rw [IntKind.wrap_i64]; omega
                  have yb : (0 : Int) ≤ (q : Int) ∧ (q : Int) < (k : Int) := by omega
                  have d : (x != x) = false := by simp
                  clear kr0 kc0 hym hyq hqa hv hy hx
                  go_wp2_with fail
                  go_quiet (fail)
                  go_wp2_with fail
                  go_roundg (nR - (j + 1))
                  case measure => omega
                  case rel => exact ⟨j + 1, by go_num, by omega, Nat.le_refl _, HJ.out.trans ((Ke.refl _ _).drewN _)⟩
                · have hjz : ¬ (j : Int) < (nR : Int) := by omega
                  have GJ := Lib.hid HJ.out
                  clear HJ
                  go_wp2_with fail
                  go_roundg (pn - (i + 1))
                  case measure => omega
                  case rel =>
                    refine ⟨i + 1, by go_num, by omega, Nat.le_refl _, _, (S4.out.gro GJ.out).more (by omega), HN2.out, ?_, fun j hj => ?_⟩
                    · exact (RO.out.keep (fun g hg => K4.out.block g (Row.lt RO.out hg).2 (fun q => by have := (Row.lt RO.out hg).1; rcases q with q | q <;> omega))).keep (fun g hg => GJ.out.block g (Nat.lt_of_lt_of_le (Row.lt RO.out hg).2 K4.out.size) (fun q => q))
                    · have kc0 := HC.out j hj
                      exact gcell GJ.out ((K4.out.cell (lt_of_cell kc0) (fun q => by rcases q with q | q <;> (simp only at q; omega))).trans kc0)
            · have hltz : ¬ (i : Int) < (pn : Int) := by omega
              obtain ⟨N', sw, hN', rowR, hcells⟩ := HI.out
              obtain ⟨c, hc⟩ := HA1.out a hak
              have alo := (Ke.refl (fun _ => False) wr).alloc (.cells #[.int .i64 (10 + (a : Int))] 3)
              have C := Lib.hid (sw_sit (sw.gro alo) (idIn_lit wr [10 + (a : Int)] #[.int .i64 (10 + (a : Int))] rfl (by simp) 1 rfl) (off_lit sw.lt.1 sw.lt.2) (by simp) (fun x hx => by simp at hx; rw [hx]; exact wf10 (by omega)) (by omega))
              have hz1 : sitE k [10 + (a : Int)] = 0 := sitE_zero.2 ⟨by simp; omega, by simp⟩
              have hR1 : sitR k A1 N' [10 + (a : Int)] = [(c : Int)] := by
                rw [sitR_eq (by omega) sw.ok hz1]
                simp only [List.map_cons, List.map_nil]
                rw [sit_back (by omega) (by omega) sw.ok hc]
                rfl
              unfold SitQ at C
              rw [hz1, hR1] at C
              have LT := sw.lt
              have kc0 := gcell alo (hcells a hak)
              rw [hcg.out a hak, hc] at kc0
              simp only [Option.getD_some] at kc0
              have akz : (a : Int) < (k : Int) := by omega
              clear HI sw hN' rowR hcells hz1 hR1 alo hc
              go_wp2_with fail
              refine C.out.mono ?_
              rintro e w5 ⟨u5, rfl, row5, s5, k5⟩
              obtain ⟨g5, cap5, rfl, -⟩ := Row.form row5 (by simp)
              have kz := rowI_cell row5 rfl 0 (by simp)
              have kc := (k5.cell (lt_of_cell kc0) (fun q => by rcases q with q | q <;> (simp only at q; omega))).trans kc0
              simp only [List.getD_cons_zero] at kz
              have S5 := Lib.hid s5
              clear C row5 s5 k5 kc0
              simp only [List.length_cons, List.length_nil, Nat.zero_add]
              go_wp2_with fail
              go_quiet (fail)
              go_wp2_with fail
              go_ret
              exact ⟨rfl, S5.out.gr.trans ((Ke.refl _ _).drewN _)⟩
end Go.Proofs.YtnmdidglfegdcaaDoor
