/- The law SeatStays, walked. -/
import Derived.Test.YtnmdidglfegdcaaDoorF1
import Derived.Test.YtnmdidglfegdcaaDoorX1
import Derived.Deep.QuietTactic
namespace Go.Proofs.YtnmdidglfegdcaaDoor
open Go.RowKit Go.Lib Go.Maps Go.Sort
set_option linter.unusedVariables false
set_option maxRecDepth 100000
set_option maxHeartbeats 4000000

/-- A row that came in, by its cells. -/
theorem Ro.cells {w w' : World} (r : Ro w) (g : Gr w w') (h : 0 < r.l.length) : ∃ b off, r.a = some ⟨b, off, none⟩ ∧ ∀ j, j < r.l.length → w'.cell? ⟨b, off + j, none⟩ = some (.int .i64 (r.l.getD j 0)) := by
  obtain ⟨a, c, e, q⟩ := r.hin
  injection e with e1 e2 e3
  rcases q with q | ⟨b, off, rfl, q⟩
  · rw [q] at h; simp at h
  · exact ⟨b, off, e1, fun j hj => gcell g (q j hj)⟩
/-- What is known on the way through the rows. -/
structure Sy (w wr : World) (p bm k i base : Nat) (lv av : Value) (L : List Int) (A : Af) (N : Nf) : Prop where
  sw : SW w wr p bm k i A N
  lin : IdIn w lv L
  row : RowI wr base av (L.map fun x => (((A x).getD 0 : Nat) : Int))
  now : ∀ x, N x = true → x ∈ L
  all : ∀ x ∈ L, N x = true
  len : L.length ≤ 100
  bs : base ≤ wr.heap.size
theorem Sy.gr {w wr w' : World} {p bm k i base : Nat} {lv av : Value} {L : List Int} {A : Af} {N : Nf} (h : Sy w wr p bm k i base lv av L A N) (g : Gr wr w') : Sy w w' p bm k i base lv av L A N :=
  ⟨h.sw.gro g, h.lin, rowI_gr h.row g, h.now, h.all, h.len, Nat.le_trans h.bs g.size⟩
theorem stays_walk (m0 : Nat) (h0 : m0 < 256) (a : Option Addr) (n cap : Nat) (w : World) (hcase : ElemsIn w 1 (roCells (w := w)) a n) (hT : Tab w) : Calls Tryd.prog 4 #[.int .u8 m0, .slice a n cap] w fun e w' => e = .returned (.bool true) ∧ Gr w w' := by
  have AW := Lib.hid (awake_true w hT)
  obtain ⟨k, hk⟩ : ∃ k, k = 1 + m0 % 64 := ⟨_, rfl⟩
  have hk2 : 1 ≤ k ∧ k ≤ 64 := by omega
  have e1 : (m0 : Int) % 64 = ((m0 % 64 : Nat) : Int) := by omega
  have e2 : (m0 : Int).tmod 64 = ((m0 % 64 : Nat) : Int) := by rw [Int.tmod_eq_emod_of_nonneg (by omega)]; exact e1
  have e3 : (1 : Int) + ((m0 % 64 : Nat) : Int) = (k : Int) := by omega
  generalize m0 % 64 = r0 at *
  have C := Lib.hid (fun (W : World) (g : Gr w W) => sw_new (k := k) hT g k (by omega))
  have HC := Lib.hid hcase
  clear hT hk hcase
  by_cases hn : n ≤ 60
  · have dn : decide ((n : Int) > 60) = false := by simp; omega
    have hnz : ¬ (60 : Int) < (n : Int) := by omega
    go_enter Tryd.func4, Tryd.ntmps4
    go_wp2_with fail
    refine AW.out.mono ?_
    rintro e w0 ⟨rfl, g0⟩
    have C := Lib.hid (C.out w0 g0)
    clear AW g0
    go_wp2_with fail
    refine C.out.mono ?_
    rintro e w1 ⟨p, bm, rfl, s1, g1, hp, hb⟩
    have S1 := Lib.hid s1
    have lt1 := s1.lt
    clear C s1 g1
    go_wp2_with fail
    go_loopg [7, 8, 9] n (fun kx s7 s8 s9 wr => ∃ i : Nat, s9 = .int .i64 i ∧ i ≤ n ∧ n - i ≤ kx ∧ Aside (∃ L A N, Sy w wr p bm k i w1.heap.size s7 s8 L A N))
    case atStart => exact ⟨0, rfl, by omega, by omega, [], _, _, S1.out, ⟨none, 0, rfl, .inl rfl⟩, rowI_nil _ _, fun x hx => (by cases hx), fun x hx => (by simp at hx), by simp, Nat.le_refl _⟩
    case round =>
      obtain ⟨i, rfl, hi, hix, HI⟩ := hrel
      by_cases hlt : i < n
      · have hltz : (i : Int) < (n : Int) := by omega
        obtain ⟨L, A, N, sy⟩ := HI.out
        obtain ⟨b, off, q, rfl, hbw, hq⟩ : ∃ (b off : Nat) (q : Nat → Ro w), a = some ⟨b, off, none⟩ ∧ b < w.heap.size ∧ ∀ i, i < n → ∀ j, j < 1 → w.cell? ⟨b, off + i * 1 + j, none⟩ = (roCells (q i))[j]? := by
          rcases HC.out with z | z
          · omega
          · exact z
        have rc0 : w.cell? ⟨b, off + i, none⟩ = some (.slice (q i).a (q i).l.length (q i).c) := by
          have := hq i hlt 0 (by omega)
          simpa [roCells] using this
        obtain ⟨r, hr⟩ : ∃ r, r = q i := ⟨_, rfl⟩
        rw [← hr] at rc0
        have rc := gcell sy.sw.gr rc0
        have RC0 := Lib.hid rc0
        obtain ⟨m, hm⟩ : ∃ m, m = r.l.length := ⟨_, rfl⟩
        rw [← hm] at rc
        have HM := Lib.hid hm
        have SY := Lib.hid sy
        clear hq hr rc0 sy HI hm
        by_cases h1 : m ≤ 100
        · have d1 : decide ((m : Int) > 100) = false := by simp; omega
          have d1z : ¬ (100 : Int) < (m : Int) := by omega
          have hrin : IdIn wr (.slice r.a m r.c) r.l := by rw [HM.out]; exact r.hin.gr SY.out.sw.gr
          have hroff : Off (.slice r.a m r.c) p bm := by rw [HM.out]; exact off_in r.hin SY.out.sw.lp SY.out.sw.lb
          have C := Lib.hid (sw_sit SY.out.sw hrin hroff (by have := HM.out; omega) r.hwf (by omega))
          have LT := SY.out.sw.lt
          have GS := SY.out.sw.gr.size
          by_cases hz : sitE k r.l = 0
          · have HZ := Lib.hid (sitE_zero.1 hz).2
            have hA := fun x => @sitA_on k A N r.l x hk2.2 SY.out.sw.ok
            have hR1 := sitR_eq (l := r.l) hk2.2 SY.out.sw.ok hz
            have hsome := fun x => @sit_some k A N r.l x hk2.2 SY.out.sw.ok hz
            have hinj := fun x y => @sitA_inj k A N r.l x hk2.2 SY.out.sw.ok hz y
            have hN2 := fun x => @sitN_yes k A N r.l x hk2.2 SY.out.sw.ok hz
            unfold SitQ at C
            rw [hR1, hz] at C
            generalize sitA k A N r.l = A' at *
            generalize sitN k A N r.l = N' at *
            obtain ⟨cl, hcl⟩ : ∃ cl, cl = r.l.map fun x => (((A' x).getD 0 : Nat) : Int) := ⟨_, rfl⟩
            rw [← hcl] at C
            have HCL := Lib.hid hcl
            have hlen : cl.length = m := by rw [hcl, List.length_map, HM.out]
            have HLEN := Lib.hid hlen
            have HA := Lib.hid hA
            have HS := Lib.hid hsome
            have HJ := Lib.hid hinj
            have HN2 := Lib.hid hN2
            clear hcl hA hsome hinj hN2 hR1 hz hrin hroff hlen
            go_wp2_with fail
            refine C.out.mono ?_
            rintro e w3 ⟨u, rfl, row3, s3, k3⟩
            obtain ⟨wb, hwb⟩ : ∃ wb, wb = wr.heap.size := ⟨_, rfl⟩
            have hwb1 : w1.heap.size ≤ wb := by rw [hwb]; exact SY.out.bs
            have K3s := k3.size
            rw [← hwb] at row3
            obtain ⟨xu, cu, eu⟩ := rowI_form row3
            subst eu
            rw [HLEN.out] at row3 ⊢
            obtain ⟨a7, c7, e7, in7⟩ := SY.out.lin
            obtain ⟨x8, c8, e8⟩ := rowI_form SY.out.row
            subst e7 e8
            rw [List.length_map] at *
            have hnL100 : L.length ≤ 100 := SY.out.len
            have R3 := Lib.hid row3
            have S3 := Lib.hid s3
            have K3 := Lib.hid k3
            have IN7 := Lib.hid in7
            clear C row3 s3 k3 in7 hwb
            go_wp2_with fail
            go_loopg [12] m (fun kx s12 wv => ∃ j : Nat, s12 = .int .i64 j ∧ j ≤ m ∧ m - j ≤ kx ∧ Aside (Gr w3 wv))
            case atStart => exact ⟨0, rfl, by omega, by omega, Ke.refl _ _⟩
            case round =>
              obtain ⟨j, rfl, hj, hjx, HJW⟩ := hrel
              by_cases hjl : j < m
              · have hjz : (j : Int) < (m : Int) := by omega
                have hjr : j < r.l.length := by rw [← HM.out]; exact hjl
                obtain ⟨xj, hxj⟩ : ∃ x, x = r.l.getD j 0 := ⟨_, rfl⟩
                have hxm : xj ∈ r.l := by rw [hxj, List.getD_eq_getElem?_getD, List.getElem?_eq_getElem hjr]; simp
                obtain ⟨cj, hcj, -, hAj⟩ := HS.out xj hxm
                obtain ⟨gu, cu', eu, hgu, -⟩ := Row.form R3.out (by rw [HLEN.out]; omega)
                obtain ⟨exu, -, ecu⟩ : xu = some ⟨gu, 0, none⟩ ∧ m = cl.length ∧ cu = cu' := by injection eu with a b c; exact ⟨a, b, c⟩
                clear eu
                subst exu ecu
                have CELL : Hid (∀ W, Gr w3 W → ∀ j', j' < m → W.cell? ⟨gu, j', none⟩ = some (.int .i64 (((A' (r.l.getD j' 0)).getD 0 : Nat) : Int))) := fun W gW j' hj' => by
                  have h1 := gcell gW (rowI_cell R3.out HLEN.out.symm j' (by rw [HLEN.out]; exact hj'))
                  have hj2 : j' < r.l.length := by rw [← HM.out]; exact hj'
                  rw [h1, HCL.out]
                  simp [List.getD_eq_getElem?_getD, hj2]
                have KJ : Hid (∀ W, Gr w3 W → W.cell? ⟨gu, j, none⟩ = some (.int .i64 (cj : Nat))) := fun W gW => by
                  have kj := CELL.out W gW j hjl
                  rw [← hxj, hAj] at kj
                  exact kj
                have kj := KJ.out _ HJW.out
                have HXJ := Lib.hid hxj
                have HAJ := Lib.hid hAj
                have HXM := Lib.hid hxm
                have dneg : decide ((cj : Int) < 0) = false := by simp
                have dbig : decide ((cj : Int) ≥ (k : Int)) = false := by simp; omega
                have hnk : ¬ (k : Int) ≤ (cj : Int) := by omega
                have hnk' : ¬ k ≤ cj := by omega
                clear hxj hAj hxm
                go_wp2_with fail
                have GJ := HJW.out
                clear kj HJW
                go_loopg [13] j (fun kx s13 wv => ∃ y : Nat, s13 = .int .i64 y ∧ y ≤ j ∧ j - y ≤ kx ∧ Aside (Gr w3 wv))
                case atStart => exact ⟨0, rfl, by omega, by omega, GJ⟩
                case round =>
                  obtain ⟨y, rfl, hy, hyx, HY⟩ := hrel
                  by_cases hyl : y < j
                  · have hyz : (y : Int) < (j : Int) := by omega
                    have hyn : (y : Int) < (m : Int) := by omega
                    have hyr : y < r.l.length := by rw [← HM.out]; omega
                    obtain ⟨xy, hxy⟩ : ∃ x, x = r.l.getD y 0 := ⟨_, rfl⟩
                    have hxym : xy ∈ r.l := by rw [hxy, List.getD_eq_getElem?_getD, List.getElem?_eq_getElem hyr]; simp
                    obtain ⟨cy, hcy, -, hAy⟩ := HS.out xy hxym
                    have ky := CELL.out _ HY.out y (by omega)
                    rw [← hxy, hAy] at ky
                    simp only [Option.getD_some] at ky
                    have kj := KJ.out _ HY.out
                    have hne : cy ≠ cj := fun e => by
                      have h1 : xy = xj := HJ.out xy xj hxym HXM.out (by rw [hAy, HAJ.out, e])
                      rw [hxy, HXJ.out] at h1
                      have hjr2 : j < r.l.length := by rw [← HM.out]; exact hjl
                      simp only [List.getD_eq_getElem?_getD, List.getElem?_eq_getElem hyr, List.getElem?_eq_getElem hjr2, Option.getD_some] at h1
                      have := (List.pairwise_iff_getElem.1 HZ.out) y j hyr hjr2 hyl
                      exact this h1
                    have d : ((cy : Int) == (cj : Int)) = false := by simp; omega
                    have GY := Lib.hid HY.out
                    clear hxy hxym hAy HY
                    go_wp2_with fail
                    go_quiet (fail)
                    go_wp2_with fail
                    go_roundg (j - (y + 1))
                    case measure => omega
                    case rel => exact ⟨y + 1, by go_num, by omega, Nat.le_refl _, GY.out.trans ((Ke.refl _ _).drewN _)⟩
                  · have hyz : ¬ (y : Int) < (j : Int) := by omega
                    have GY := HY.out
                    clear HY
                    go_wp2_with fail
                    go_loopg [14] L.length (fun kx s14 wv => ∃ z : Nat, s14 = .int .i64 z ∧ z ≤ L.length ∧ L.length - z ≤ kx ∧ Aside (Gr w3 wv))
                    case atStart => exact ⟨0, rfl, by omega, by omega, GY⟩
                    case round =>
                      obtain ⟨z, rfl, hz, hzx, HZW⟩ := hrel
                      by_cases hzl : z < L.length
                      · have hzz : (z : Int) < (L.length : Int) := by omega
                        have hzL : z < L.length := hzl
                        have GW3 := S3.out.gr.trans HZW.out
                        obtain ⟨b7, o7, ea7, in7⟩ : ∃ b7 o7, a7 = some ⟨b7, o7, none⟩ ∧ ∀ j, j < L.length → w.cell? ⟨b7, o7 + j, none⟩ = some (.int .i64 (L.getD j 0)) := by
                          rcases IN7.out with q | q
                          · rw [q] at hzL; simp at hzL
                          · exact q
                        subst ea7
                        obtain ⟨br, or, ear, inr⟩ := r.cells GW3 (by rw [← HM.out]; omega)
                        obtain ⟨g8, c8', e8, hg8, hgl8, -⟩ := Row.form SY.out.row (by rw [List.length_map]; omega)
                        obtain ⟨ex8, -, ec8⟩ : x8 = some ⟨g8, 0, none⟩ ∧ L.length = (L.map fun x => (((A x).getD 0 : Nat) : Int)).length ∧ c8 = c8' := by injection e8 with a b c; exact ⟨a, b, c⟩
                        clear e8
                        subst ex8 ec8
                        obtain ⟨lz, hlz⟩ : ∃ x, x = L.getD z 0 := ⟨_, rfl⟩
                        have hlm : lz ∈ L := by rw [hlz, List.getD_eq_getElem?_getD, List.getElem?_eq_getElem hzL]; simp
                        have k7 := gcell GW3 (in7 z hzL)
                        rw [← hlz] at k7
                        have krc := gcell GW3 RC0.out
                        rw [← HM.out, ear] at krc
                        have kxj := inr j (by rw [← HM.out]; exact hjl)
                        rw [← HXJ.out] at kxj
                        have k80 := rowI_cell SY.out.row (by rw [List.length_map]) z (by rw [List.length_map]; exact hzL)
                        have k8 := gcell HZW.out ((K3.out.cell (lt_of_cell k80) (fun q => by rcases q with q | q <;> (simp only at q; omega))).trans k80)
                        have e80 : (L.map fun x => (((A x).getD 0 : Nat) : Int)).getD z 0 = (((A lz).getD 0 : Nat) : Int) := by
                          rw [hlz]
                          simp [List.getD_eq_getElem?_getD, hzL]
                        rw [e80] at k8
                        have kj := KJ.out _ HZW.out
                        have GZ := Lib.hid HZW.out
                        have HLZ := Lib.hid hlz
                        by_cases heq : lz = xj
                        · have hAz : A lz = some cj := by
                            have h1 := HA.out xj HXM.out (by rw [← heq]; exact SY.out.all lz hlm)
                            rw [heq, ← h1, HAJ.out]
                          rw [hAz] at k8
                          rw [heq] at k7
                          simp only [Option.getD_some] at k8
                          have d1 : (xj == xj) = true := by simp
                          have d2 : ((cj : Int) != (cj : Int)) = false := by simp
                          clear hlz hlm in7 inr ear e80 k80 heq HZW hAz
                          go_wp2_with fail
                          go_quiet (fail)
                          go_wp2_with fail
                          go_roundg (L.length - (z + 1))
                          case measure => omega
                          case rel => exact ⟨z + 1, by go_num, by omega, Nat.le_refl _, GZ.out.trans ((Ke.refl _ _).drewN _)⟩
                        · have d1 : (lz == xj) = false := by simpa using heq
                          clear hlz hlm in7 inr ear e80 k80 heq HZW
                          go_wp2_with fail
                          go_quiet (fail)
                          go_wp2_with fail
                          go_roundg (L.length - (z + 1))
                          case measure => omega
                          case rel => exact ⟨z + 1, by go_num, by omega, Nat.le_refl _, GZ.out.trans ((Ke.refl _ _).drewN _)⟩
                      · have hzz : ¬ (z : Int) < (L.length : Int) := by omega
                        have GZ := Lib.hid HZW.out
                        clear HZW
                        go_wp2_with fail
                        go_roundg (m - (j + 1))
                        case measure => omega
                        case rel => exact ⟨j + 1, by go_num, by omega, Nat.le_refl _, GZ.out⟩
              · have hjz : ¬ (j : Int) < (m : Int) := by omega
                have GJ := Lib.hid HJW.out
                have rc2 := gcell (S3.out.gr.trans GJ.out) RC0.out
                rw [← HM.out] at rc2
                clear HJW
                have hb1 : Hid (w1.heap.size ≤ wb) := hwb1
                go_wp2_with fail
                go_roundg (n - (i + 1))
                case measure => omega
                case rel =>
                  refine ⟨i + 1, by go_num, by omega, Nat.le_refl _, r.l, A', N', S3.out.gro GJ.out, ?_, ?_, fun x hx => ?_, fun x hx => ?_, ?_, ?_⟩
                  · rw [HM.out]; exact r.hin
                  · have h3 := rowI_gr R3.out GJ.out
                    rw [HCL.out] at h3
                    exact Row.low h3 hb1.out
                  · rw [HN2.out] at hx; simpa using hx
                  · rw [HN2.out]; simpa using hx
                  · rw [← HM.out]; exact h1
                  · exact Nat.le_trans SY.out.bs (Nat.le_trans K3.out.size GJ.out.size)
          · have hA0 : sitA k A N r.l = A := by unfold sitA; rw [if_neg hz]
            have hN0 : sitN k A N r.l = N := by unfold sitN; rw [if_neg hz]
            unfold SitQ at C
            rw [hA0, hN0] at C
            have hR0 := sitR_none (A := A) (N := N) hz
            obtain ⟨ee, hee⟩ : ∃ ee, ee = sitE k r.l := ⟨_, rfl⟩
            rw [← hee] at C hz
            have d3 : (ee != 0) = true := by simpa using hz
            have SYL := Lib.hid SY.out
            clear hA0 hN0 hR0 hee hrin hroff
            go_wp2_with fail
            refine C.out.mono ?_
            rintro e w3 ⟨u, rfl, row3, s3, k3⟩
            have S3 := Lib.hid s3
            have K3 := Lib.hid k3
            obtain ⟨xu, cu, eu⟩ := rowI_form row3
            subst eu
            clear C row3 s3 k3
            go_wp2_with fail
            go_roundg (n - (i + 1))
            case measure => omega
            case rel =>
              refine ⟨i + 1, by go_num, by omega, Nat.le_refl _, L, A, N, S3.out, SYL.out.lin, ?_, SYL.out.now, SYL.out.all, SYL.out.len, Nat.le_trans SYL.out.bs K3.out.size⟩
              exact SYL.out.row.keep (fun g hg => K3.out.block g (Row.lt SYL.out.row hg).2 (fun q => by have := (Row.lt SYL.out.row hg).1; rcases q with q | q <;> omega))
        · have d1 : decide ((m : Int) > 100) = true := by simp; omega
          have d1z : (100 : Int) < (m : Int) := by omega
          go_wp2_with fail
          go_ret
          exact ⟨rfl, SY.out.sw.gr⟩
      · have hltz : ¬ (i : Int) < (n : Int) := by omega
        obtain ⟨L, A, N, sy⟩ := HI.out
        have SY := Lib.hid sy
        clear HI sy
        go_wp2_with fail
        go_ret
        exact ⟨rfl, SY.out.sw.gr⟩
  · have hnz : (60 : Int) < (n : Int) := by omega
    have dn : decide ((n : Int) > 60) = true := by simp; omega
    clear HC
    go_enter Tryd.func4, Tryd.ntmps4
    go_wp2_with fail
    refine AW.out.mono ?_
    rintro e w0 ⟨rfl, g0⟩
    have C := Lib.hid (C.out w0 g0)
    clear AW g0
    go_wp2_with fail
    refine C.out.mono ?_
    rintro e w1 ⟨p, bm, rfl, s1, g1, hp, hb⟩
    have S1 := Lib.hid s1
    clear C s1 g1
    go_wp2_with fail
    go_ret
    exact ⟨rfl, S1.out.gr⟩
end Go.Proofs.YtnmdidglfegdcaaDoor
