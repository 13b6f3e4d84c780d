/- The document's own seats: Sit where it is not refused, walked. -/
import Derived.Test.YtnmdidglfegdcaaDoorG5
namespace Go.Proofs.YtnmdidglfegdcaaDoor
open Go.RowKit Go.Lib Go.Maps
set_option linter.unusedVariables false
set_option maxRecDepth 100000
set_option maxHeartbeats 4000000

theorem sit_rf_ok {w : World} {base p k : Nat} {v vi : Value} {S : List Sa} {l : List Int} (h : Rf w base p k v S) (hS : Dis S) (ok : Ok k (fA S) (fN S)) (hk1 : 1 ≤ k) (hk : k ≤ 64) (hb : base ≤ w.heap.size) (hSl : S.length ≤ 15000) (hv : IdIn w vi l) (hoff : ∀ b off n c, vi = .slice (some ⟨b, off, none⟩) n c → 0 < n → ¬ (b = p ∨ v.ownBlock = some b)) (hl : l.length ≤ k) : Calls Tryd.prog 13 #[.pointer (some ⟨p, 0, none⟩), vi] w fun e w' => RefQ w base p k v S l e w' := by
  have c0 := h.c0
  obtain ⟨a, c, rfl, hin⟩ := hv
  obtain ⟨m, hm⟩ : ∃ m, m = l.length := ⟨_, rfl⟩
  have HM := Lib.hid hm
  rw [← hm] at hl ⊢
  have hlz : ¬ (k : Int) < (m : Int) := by omega
  have OFF : Hid (∀ b off, a = some ⟨b, off, none⟩ → 0 < m → ¬ (b = p ∨ v.ownBlock = some b)) := fun b off e h => hoff b off m c (by rw [e, HM.out]) h
  have RF := Lib.hid h
  have HIN := Lib.hid hin
  have OK := Lib.hid ok
  have HS := Lib.hid hS
  clear h hin ok hS hm hoff
  go_enter Tryd.func13, Tryd.ntmps13
  go_wp2_with fail
  go_loopg [6] m (fun kx s6 wr => ∃ i : Nat, s6 = .int .i64 i ∧ i ≤ m ∧ m - i ≤ kx ∧ Aside (Gr w wr ∧ (l.take i).Nodup))
  case atStart => exact ⟨0, rfl, by omega, by omega, Ke.refl _ _, by simp⟩
  case round =>
    obtain ⟨i, rfl, hi, hix, HI⟩ := hrel
    by_cases hlt : i < m
    · have hltz : (i : Int) < (m : Int) := by omega
      have hil : i < l.length := by rw [← HM.out]; exact hlt
      obtain ⟨b, off, rfl, cells⟩ : ∃ b off, a = some ⟨b, off, none⟩ ∧ ∀ j, j < l.length → w.cell? ⟨b, off + j, none⟩ = some (.int .i64 (l.getD j 0)) := by
        rcases HIN.out with q | q
        · rw [q] at hil; simp at hil
        · exact q
      have GI := HI.out.1
      have ND := Lib.hid HI.out.2
      have CE := Lib.hid cells
      clear HI cells
      go_wp2_with fail
      go_loopg [7] i (fun kx s7 wr => ∃ j : Nat, s7 = .int .i64 j ∧ j ≤ i ∧ i - j ≤ kx ∧ Aside (Gr w wr ∧ ∀ c, c < j → l.getD c 0 ≠ l.getD i 0))
      case atStart => exact ⟨0, rfl, by omega, by omega, GI, fun c hc => by omega⟩
      case round =>
        obtain ⟨j, rfl, hj, hjx, HJ⟩ := hrel
        by_cases hjl : j < i
        · have hjz : (j : Int) < (i : Int) := by omega
          have hjm : (j : Int) < (m : Int) := by omega
          have ki := gcell HJ.out.1 (CE.out i hil)
          have kj := gcell HJ.out.1 (CE.out j (by omega))
          obtain ⟨xi, hxi⟩ : ∃ x, x = l.getD i 0 := ⟨_, rfl⟩
          obtain ⟨xj, hxj⟩ : ∃ x, x = l.getD j 0 := ⟨_, rfl⟩
          rw [← hxi] at ki
          rw [← hxj] at kj
          have HXI := Lib.hid hxi
          have HXJ := Lib.hid hxj
          have GJ := Lib.hid HJ.out.1
          have NJ := Lib.hid HJ.out.2
          clear HJ hxi hxj
          by_cases he : xi = xj
          · have d : (xi == xj) = true := by simp [he]
            have HE := Lib.hid he
            clear he
            go_wp2_with fail
            go_quiet (fail)
            go_wp2_with fail
            go_ret2
            have hnd : ¬ l.Nodup := fun q => by
              have := (List.pairwise_iff_getElem.1 q) j i (by omega) hil hjl
              apply this
              have h1 := HXI.out
              have h2 := HXJ.out
              simp only [List.getD_eq_getElem?_getD, List.getElem?_eq_getElem hil, List.getElem?_eq_getElem (show j < l.length by omega), Option.getD_some] at h1 h2
              rw [← h1, ← h2, HE.out]
            exact refq_twice RF.out HS.out (by have := HM.out; omega) hnd (GJ.out.trans ((Ke.refl _ _).drewN _))
          · have d : (xi == xj) = false := by simpa using he
            have HE := Lib.hid he
            clear he
            go_wp2_with fail
            go_quiet (fail)
            go_wp2_with fail
            go_roundg (i - (j + 1))
            case measure => omega
            case rel => exact ⟨j + 1, by go_num, by omega, Nat.le_refl _, GJ.out.trans ((Ke.refl _ _).drewN _), fun c hc => by
              by_cases q : c = j
              · rw [q, ← HXJ.out, ← HXI.out]; exact Ne.symm HE.out
              · exact NJ.out c (by omega)⟩
        · have hjz : ¬ (j : Int) < (i : Int) := by omega
          have GJ := Lib.hid HJ.out.1
          have NJ : Hid ((l.take (i + 1)).Nodup) := by
            have h2 := HJ.out.2
            rw [Hid, List.take_succ_eq_append_getElem hil, List.nodup_append]
            refine ⟨ND.out, by simp, fun x hx y hy => ?_⟩
            simp at hy
            subst hy
            obtain ⟨c, hc, rfl⟩ := List.mem_iff_getElem.1 hx
            have hc' : c < i := by rw [List.length_take] at hc; omega
            have := h2 c (by omega)
            simp only [List.getD_eq_getElem?_getD, List.getElem?_eq_getElem hil, List.getElem?_eq_getElem (show c < l.length by omega), Option.getD_some] at this
            simpa using this
          clear HJ
          go_wp2_with fail
          go_roundg (m - (i + 1))
          case measure => omega
          case rel => exact ⟨i + 1, by go_num, by omega, Nat.le_refl _, GJ.out, NJ.out⟩
    · have hltz : ¬ (i : Int) < (m : Int) := by omega
      have ND : Hid (l.Nodup) := by
        have h2 := HI.out.2
        rw [List.take_of_length_le (by have := HM.out; omega)] at h2
        exact h2
      have G1 := Lib.hid HI.out.1
      have c0' := gcell HI.out.1 c0
      clear HI c0
      go_upto_region 11 with fail
      have hm2 : m ≤ 64 := by omega
      have CM := Lib.hid (cm_made w wr G1.out m k (by omega) (by omega))
      have mk1 := make30 m (by omega) wr
      have mk2 := make55 k (by omega) (wr.alloc (.cells (Array.replicate m (.int .i64 0)) 3))
      have c02 := gcell ((Ke.refl _ wr).alloc (.cells (Array.replicate m (.int .i64 0)) 3)) c0'
      have esz : (wr.alloc (.cells (Array.replicate m (.int .i64 0)) 3)).heap.size = wr.heap.size + 1 := by simp
      rw [esz] at mk2
      obtain ⟨gc, hgc⟩ : ∃ gc, gc = wr.heap.size := ⟨_, rfl⟩
      obtain ⟨W1, hW1⟩ : ∃ W1, W1 = wr.alloc (.cells (Array.replicate m (.int .i64 0)) 3) := ⟨_, rfl⟩
      rw [← hW1, ← hgc] at mk1 mk2
      rw [← hW1, ← hgc] at CM
      rw [← hW1] at c02
      obtain ⟨W2, hW2⟩ : ∃ W2, W2 = W1.alloc (.cells (Array.replicate k (.bool false)) 4) := ⟨_, rfl⟩
      rw [← hW2] at mk2 CM
      clear hgc hW1 hW2 esz
      go_upto_region 13 with fail
      obtain ⟨gt, hgt⟩ : ∃ gt, gt = gc + 1 := ⟨_, rfl⟩
      rw [← hgt] at CM ⊢
      have cgz := CM.out.cl
      have ctz := CM.out.tl
      clear mk1 mk2 c02 G1 c0' hgt
      go_wp2_with fail
      go_loopg [10] m (fun kx s10 wr => ∃ i : Nat, s10 = .int .i64 i ∧ i ≤ m ∧ m - i ≤ kx ∧ Aside (Cm w wr gc gt m k (fun j => if j < i then cg (pass (el1 (fA S) (fN S)) (l.take i) (start k)) (l.getD j 0) else 0) (pass (el1 (fA S) (fN S)) (l.take i) (start k)).T))
      case atStart => exact ⟨0, rfl, by omega, by omega, CM.out.congr (fun j hj => by simp) (fun c hc => rfl)⟩
      case round =>
        obtain ⟨i, rfl, hi, hix, HI⟩ := hrel
        by_cases hlt : i < m
        · have hltz : (i : Int) < (m : Int) := by omega
          have hil : i < l.length := by rw [← HM.out]; exact hlt
          obtain ⟨b, off, rfl, cells⟩ : ∃ b off, a = some ⟨b, off, none⟩ ∧ ∀ j, j < l.length → w.cell? ⟨b, off + j, none⟩ = some (.int .i64 (l.getD j 0)) := by
            rcases HIN.out with q | q
            · rw [q] at hil; simp at hil
            · exact q
          obtain ⟨x, hx⟩ : ∃ x, x = l.getD i 0 := ⟨_, rfl⟩
          have hxm : x ∈ l := by rw [hx]; exact getD_mem' hil
          have hst : pass (el1 (fA S) (fN S)) (l.take (i + 1)) (start k) = step (el1 (fA S) (fN S)) (pass (el1 (fA S) (fN S)) (l.take i) (start k)) x := by rw [hx]; exact pass_take hil
          have hP1 : P1 k (l.take i) (fA S) (fN S) (pass (el1 (fA S) (fN S)) (l.take i) (start k)) := r1_p1 (l := l.take i) OK.out
          have hGx : (pass (el1 (fA S) (fN S)) (l.take i) (start k)).G x = none := by
            cases e : (pass (el1 (fA S) (fN S)) (l.take i) (start k)).G x with
            | none => rfl
            | some c =>
              have := (hP1.iv.mem x c e).1
              obtain ⟨j, hj, e2⟩ := List.mem_iff_getElem.1 this
              rw [List.length_take] at hj
              have h3 := (List.pairwise_iff_getElem.1 ND.out) j i (by omega) hil (by omega)
              rw [hx] at e2
              simp [List.getD_eq_getElem?_getD, List.getElem?_eq_getElem hil] at e2
              exact absurd e2 h3
          have hdis : ∀ j, j < i → l.getD j 0 ≠ x := fun j hj => by
            have h3 := (List.pairwise_iff_getElem.1 ND.out) j i (by omega) hil hj
            rw [hx]
            simp only [List.getD_eq_getElem?_getD, List.getElem?_eq_getElem hil, List.getElem?_eq_getElem (show j < l.length by omega), Option.getD_some]
            exact h3
          have HST := Lib.hid hst
          have HP1 := Lib.hid hP1
          have HD := Lib.hid hdis
          have C1 := Lib.hid HI.out
          clear hst hP1 HI hdis
          generalize pass (el1 (fA S) (fN S)) (l.take i) (start k) = s at *
          have kx := gcell C1.out.gr (cells i hil)
          rw [← hx] at kx
          have HX := Lib.hid hx
          have kc := C1.out.cc hlt
          have zc := C1.out.zc i
          have rf1 := RF.out.gr (((C1.out.set i (-1)).gr))
          have AT := Lib.hid (at_any rf1 x)
          have C2 := Lib.hid (C1.out.set i (-1))
          have kx2 := gcell C2.out.gr (cells i hil)
          rw [← hx] at kx2
          have CEL := Lib.hid cells
          clear cells hx
          have same : Hid (el1 (fA S) (fN S) s x = none → Cm w (wr.setCell ⟨gc, i, none⟩ (.int .i64 (-1))) gc gt m k (fun j => if j < i + 1 then cg (step (el1 (fA S) (fN S)) s x) (l.getD j 0) else 0) (step (el1 (fA S) (fN S)) s x).T) := fun he => by
            rw [step_none he]
            refine C2.out.congr (fun j hj => ?_) (fun c hc => rfl)
            by_cases e : j = i
            · subst e; rw [upd_same, if_pos (by omega), ← HX.out, cg_none hGx]
            · rw [upd_other _ _ e]
              by_cases q : j < i
              · rw [if_pos (by omega), if_pos q]
              · rw [if_neg (by omega), if_neg q]
          obtain ⟨av, hav⟩ : ∃ av, av = atV S x := ⟨_, rfl⟩
          rw [← hav] at AT
          clear kx kc kx2
          have kx := gcell C1.out.gr (HX.out ▸ CEL.out i hil)
          have kx2 := gcell C2.out.gr (HX.out ▸ CEL.out i hil)
          have kc := C1.out.cc hlt
          go_wp2_with fail
          refine AT.out.mono ?_
          rintro e w4 ⟨rfl, hw⟩
          obtain rfl := hw.symm
          clear hw AT kx kc zc kx2
          obtain ⟨W4, hW4⟩ : ∃ W4, W4 = wr.setCell ⟨gc, i, none⟩ (.int .i64 (-1)) := ⟨_, rfl⟩
          rw [← hW4] at same C2 rf1 ⊢
          clear hW4
          unfold atV at hav
          cases e : atI S x with
          | none =>
            rw [e] at hav
            have he : Hid (el1 (fA S) (fN S) s x = none) := by unfold el1; rw [Hid, if_neg (fun q => by have := q.2; rw [fN_no e] at this; cases this)]
            simp only at hav
            subst hav
            clear e rf1 hGx
            go_wp2_with fail
            go_roundg (m - (i + 1))
            case measure => omega
            case rel =>
              refine ⟨i + 1, by go_num, by omega, Nat.le_refl _, ?_⟩
              rw [Aside, HST.out]
              exact same.out he.out
          | some kk =>
            rw [e] at hav
            have hkk := atI_lt e
            obtain ⟨gl, cap, ev, _⟩ := Row.form rf1.row (by omega)
            have c1 := rf1.c1
            have kn := rf1.row
            rw [ev] at c1 kn
            have kn2 := kn.cell (kk * 3 + 2) (by omega)
            have kn1 := kn.cell (kk * 3 + 1) (by omega)
            rw [tc_at _ kk 2 (by omega)] at kn2
            rw [tc_at _ kk 1 (by omega)] at kn1
            simp only [fld] at kn1 kn2
            have kz : (kk : Int) < (S.length : Int) := by omega
            have hA := fA_at e
            have hN := fN_at e
            obtain ⟨z, hz⟩ : ∃ z, z = S.getD kk zeroS := ⟨_, rfl⟩
            rw [← hz] at kn1 kn2 hA hN
            simp only at hav
            subst hav
            have k0 : decide ((kk : Int) ≥ 0) = true := by simp
            cases hnow : z.now with
            | false =>
              rw [hnow] at kn2 hN
              have he : Hid (el1 (fA S) (fN S) s x = none) := by unfold el1; rw [Hid, if_neg (fun q => by have := q.2; rw [hN] at this; cases this)]
              clear e rf1 hGx ev kn hA hN hz hnow kn1
              go_wp2_with fail
              go_roundg (m - (i + 1))
              case measure => omega
              case rel =>
                refine ⟨i + 1, by go_num, by omega, Nat.le_refl _, ?_⟩
                rw [Aside, HST.out]
                exact same.out he.out
            | true =>
              rw [hnow] at kn2 hN
              obtain ⟨cc, hcc⟩ : ∃ cc, cc = z.c := ⟨_, rfl⟩
              rw [← hcc] at kn1 hA
              have he : Hid (el1 (fA S) (fN S) s x = some cc) := by unfold el1; rw [Hid, if_pos ⟨hGx, hN⟩, hA]
              have hck := OK.out.lt x cc hA
              clear e rf1 hGx ev kn hA hN hz hnow hcc
              have kc := C2.out.cc hlt
              have zc := C2.out.zc i
              have kt := C2.out.ct hck
              have zt := C2.out.zt cc
              have hckz : (cc : Int) < (k : Int) := by omega
              have nct := C2.out.ne
              have nct2 : gt ≠ gc := Ne.symm nct
              go_wp2_with fail
              go_roundg (m - (i + 1))
              case measure => omega
              case rel =>
                refine ⟨i + 1, by go_num, by omega, Nat.le_refl _, ?_⟩
                rw [Aside, HST.out, step_some he.out]
                refine ((C2.out.set i cc).setT cc).congr (fun j hj => ?_) (fun c hc => rfl)
                by_cases e : j = i
                · subst e; rw [upd_same, if_pos (by omega), ← HX.out, cg_some on_same]
                · rw [upd_other _ _ e, upd_other _ _ e]
                  by_cases q : j < i
                  · rw [if_pos (by omega), if_pos q]
                    unfold cg
                    rw [on_other (HD.out j q)]
                  · rw [if_neg (by omega), if_neg q]
        · have hltz : ¬ (i : Int) < (m : Int) := by omega
          obtain ⟨s1, hs1⟩ : ∃ s1, s1 = r1 k (fA S) (fN S) (rise l) := ⟨_, rfl⟩
          have C1 : Hid (Cm w wr gc gt m k (fun j => cg s1 (l.getD j 0)) s1.T) := by
            have h := HI.out
            rw [List.take_of_length_le (by have := HM.out; omega)] at h
            rw [show pass (el1 (fA S) (fN S)) l (start k) = s1 from by rw [hs1]; exact r1_perm OK.out (fun x => (rise_mem l x).symm)] at h
            exact h.congr (fun j hj => by rw [if_pos (by omega)]) (fun c hc => rfl)
          have HS1 := Lib.hid hs1
          clear HI hs1
          go_wp2_with fail
          go_loopg [12] 2 (fun kx s12 wr => ∃ t : Nat, s12 = .int .i64 t ∧ t ≤ 2 ∧ 2 - t ≤ kx ∧ Aside (Cm w wr gc gt m k (fun j => cg (stT k (fA S) (fN S) (rise l) t) (l.getD j 0)) (stT k (fA S) (fN S) (rise l) t).T))
          case atStart => exact ⟨0, rfl, by omega, by omega, by have h := C1.out; rw [HS1.out] at h; exact h⟩
          case round =>
            obtain ⟨t, rfl, ht, htx, HT⟩ := hrel
            by_cases htl : t < 2
            · have htz : (t : Int) < 2 := by omega
              obtain ⟨tg, htg⟩ : ∃ tg, tg = stT k (fA S) (fN S) (rise l) (t + 1) := ⟨_, rfl⟩
              have HTG := Lib.hid htg
              have hpt := Lib.hid (pass_stT k (fA S) (fN S) (rise l) htl)
              rw [← htg] at hpt
              have hiv : Hid (Iv k (rise l) (stT k (fA S) (fN S) (rise l) t)) := by
                have : t = 0 ∨ t = 1 := by omega
                rcases this with rfl | rfl
                · exact (r1_p1 OK.out).iv
                · exact r2_iv OK.out
              have C3 := HT.out
              have hun : un l (stT k (fA S) (fN S) (rise l) t) ≤ m := by
                rw [HM.out]
                exact List.length_filter_le _ _
              generalize stT k (fA S) (fN S) (rise l) t = sT at *
              clear HT htg
              go_wp2_with fail
              go_loopg [13] m (fun kx s13 wr => ∃ s, un l s ≤ kx ∧ Aside (Cm w wr gc gt m k (fun j => cg s (l.getD j 0)) s.T ∧ Iv k (rise l) s ∧ pass (elT (fA S) t) (rise l) s = tg))
              case atStart => exact ⟨sT, hun, C3, hiv.out, hpt.out⟩
              case round =>
                obtain ⟨s, hsk, HI⟩ := hrel
                have C4 := HI.out.1
                have IV := Lib.hid HI.out.2.1
                have PT := Lib.hid HI.out.2.2
                clear HI
                go_wp2_with fail
                go_loopg [13, 14] m (fun kx s13 s14 wr => ∃ (i : Nat) (av : Int), s14 = .int .i64 i ∧ s13 = .int .i64 av ∧ i ≤ m ∧ m - i ≤ kx ∧ Aside (Cm w wr gc gt m k (fun j => cg s (l.getD j 0)) s.T ∧ Sc (elT (fA S) t) s l i av))
                case atStart => exact ⟨0, -1, rfl, rfl, by omega, by omega, C4, Sc.start⟩
                case round =>
                  obtain ⟨i, av, rfl, rfl, hi, hix, HQ⟩ := hrel
                  by_cases hlt : i < m
                  · have hltz : (i : Int) < (m : Int) := by omega
                    have hil : i < l.length := by rw [← HM.out]; exact hlt
                    obtain ⟨b, off, rfl, cells⟩ : ∃ b off, a = some ⟨b, off, none⟩ ∧ ∀ j, j < l.length → w.cell? ⟨b, off + j, none⟩ = some (.int .i64 (l.getD j 0)) := by
                      rcases HIN.out with q | q
                      · rw [q] at hil; simp at hil
                      · exact q
                    obtain ⟨x, hx⟩ : ∃ x, x = l.getD i 0 := ⟨_, rfl⟩
                    have CQ := Lib.hid HQ.out.1
                    have SQ := Lib.hid HQ.out.2
                    have HX := Lib.hid hx
                    have kx := gcell CQ.out.gr (cells i hil)
                    rw [← hx] at kx
                    have CEL := Lib.hid cells
                    have rf1 := RF.out.gr CQ.out.gr
                    have AT := Lib.hid (at_any rf1 x)
                    obtain ⟨ka, hka⟩ : ∃ ka, ka = atV S x := ⟨_, rfl⟩
                    rw [← hka] at AT
                    have kc := CQ.out.cc hlt
                    rw [← hx] at kc
                    clear HQ cells hx
                    go_wp2_with fail
                    refine AT.out.mono ?_
                    rintro e w4 ⟨rfl, hw⟩
                    obtain rfl := hw.symm
                    clear hw AT
                    cases hG : s.G x with
                    | some c =>
                      rw [cg_some hG] at kc
                      have HE : Hid (elT (fA S) t s x = none) := (selT (fA S) t).fresh s x (by rw [hG]; simp)
                      have d1 : decide ((c : Int) ≥ 0) = true := by simp
                      clear hG hka rf1
                      go_wp2_with fail
                      go_roundg (m - (i + 1))
                      case measure => omega
                      case rel => exact ⟨i + 1, av, by go_num, rfl, by omega, Nat.le_refl _, CQ.out, SQ.out.skip (by rw [← HX.out]; exact HE.out)⟩
                    | none =>
                      rw [cg_none hG] at kc
                      by_cases ht0 : t = 0
                      · have dt : ((t : Int) == 0) = true := by simp; omega
                        have HT0 := Lib.hid ht0
                        clear ht0
                        unfold atV at hka
                        cases e : atI S x with
                        | none =>
                          rw [e] at hka
                          simp only at hka
                          subst hka
                          have HE : Hid (elT (fA S) t s x = none) := by rw [HT0.out, elT0, Hid]; unfold el2; rw [if_pos hG, fA_no e]; rfl
                          clear hG rf1 e
                          go_wp2_with fail
                          go_roundg (m - (i + 1))
                          case measure => omega
                          case rel => exact ⟨i + 1, av, by go_num, rfl, by omega, Nat.le_refl _, CQ.out, SQ.out.skip (by rw [← HX.out]; exact HE.out)⟩
                        | some kk =>
                          rw [e] at hka
                          simp only at hka
                          subst hka
                          have hkk := atI_lt e
                          obtain ⟨gl, cap, ev, _⟩ := Row.form rf1.row (by omega)
                          have c1 := rf1.c1
                          have kn := rf1.row
                          rw [ev] at c1 kn
                          have kn1 := kn.cell (kk * 3 + 1) (by omega)
                          rw [tc_at _ kk 1 (by omega)] at kn1
                          simp only [fld] at kn1
                          have kz : (kk : Int) < (S.length : Int) := by omega
                          have hA := fA_at e
                          obtain ⟨cc, hcc⟩ : ∃ cc, cc = (S.getD kk zeroS).c := ⟨_, rfl⟩
                          rw [← hcc] at kn1 hA
                          have hck := OK.out.lt x cc hA
                          have hckz : (cc : Int) < (k : Int) := by omega
                          have k0 : decide ((kk : Int) < 0) = false := by simp
                          have kt := CQ.out.ct hck
                          cases hTc : s.T cc with
                          | true =>
                            rw [hTc] at kt
                            have HE : Hid (elT (fA S) t s x = none) := by rw [HT0.out, elT0, Hid]; unfold el2; rw [if_pos hG, hA, Option.bind_some, if_pos hTc]
                            clear hG rf1 e ev kn hA hcc hTc
                            go_wp2_with fail
                            go_roundg (m - (i + 1))
                            case measure => omega
                            case rel => exact ⟨i + 1, av, by go_num, rfl, by omega, Nat.le_refl _, CQ.out, SQ.out.skip (by rw [← HX.out]; exact HE.out)⟩
                          | false =>
                            rw [hTc] at kt
                            have HE : Hid (∃ c, elT (fA S) t s x = some c) := ⟨cc, by rw [HT0.out, elT0]; unfold el2; rw [if_pos hG, hA, Option.bind_some, if_neg (by rw [hTc]; simp)]⟩
                            clear hG rf1 e ev kn hA hcc hTc
                            rcases SQ.out with ⟨hav, _⟩ | ⟨jv, hav, hjv, _⟩
                            · have HAV := Lib.hid hav
                              subst hav
                              go_wp2_with fail
                              go_quiet (fail)
                              go_wp2_with fail
                              go_roundg (m - (i + 1))
                              case measure => omega
                              case rel =>
                                obtain ⟨c, hc⟩ := HE.out
                                exact ⟨i + 1, (i : Int), by go_num, rfl, by omega, Nat.le_refl _, CQ.out.next ((Ke.refl _ _).drewN _), SQ.out.take (by rw [← HX.out]; exact hc) (.inl (by omega))⟩
                            · subst hav
                              have hjm : (jv : Int) < (m : Int) := by omega
                              have kj := gcell CQ.out.gr (CEL.out jv (by omega))
                              obtain ⟨xj, hxj⟩ : ∃ xj, xj = l.getD jv 0 := ⟨_, rfl⟩
                              rw [← hxj] at kj
                              have HXJ := Lib.hid hxj
                              have dj0 : decide ((jv : Int) < 0) = false := by simp
                              clear hxj
                              by_cases hlt2 : x < xj
                              · have dx : decide (x < xj) = true := by simpa using hlt2
                                have HL := Lib.hid hlt2
                                go_wp2_with fail
                                go_quiet (fail)
                                go_wp2_with fail
                                go_roundg (m - (i + 1))
                                case measure => omega
                                case rel =>
                                  obtain ⟨c, hc⟩ := HE.out
                                  exact ⟨i + 1, (i : Int), by go_num, rfl, by omega, Nat.le_refl _, CQ.out.next ((Ke.refl _ _).drewN _), SQ.out.take (by rw [← HX.out]; exact hc) (.inr ⟨jv, rfl, by rw [← HX.out, ← HXJ.out]; exact HL.out⟩)⟩
                              · have dx : decide (x < xj) = false := by simpa using hlt2
                                have HL := Lib.hid hlt2
                                go_wp2_with fail
                                go_quiet (fail)
                                go_wp2_with fail
                                go_roundg (m - (i + 1))
                                case measure => omega
                                case rel => exact ⟨i + 1, (jv : Int), by go_num, rfl, by omega, Nat.le_refl _, CQ.out.next ((Ke.refl _ _).drewN _), SQ.out.keep rfl (by have := HL.out; rw [← HX.out, ← HXJ.out]; omega)⟩
                      · have dt : ((t : Int) == 0) = false := by simp; omega
                        have HE : Hid (∃ c, elT (fA S) t s x = some c) := ⟨low s.T, by rw [show t = 1 by omega, elT1]; unfold el3; rw [if_pos hG]⟩
                        clear hG rf1 hka
                        rcases SQ.out with ⟨hav, _⟩ | ⟨jv, hav, hjv, _⟩
                        · have HAV := Lib.hid hav
                          subst hav
                          go_wp2_with fail
                          go_quiet (fail)
                          go_wp2_with fail
                          go_roundg (m - (i + 1))
                          case measure => omega
                          case rel =>
                            obtain ⟨c, hc⟩ := HE.out
                            exact ⟨i + 1, (i : Int), by go_num, rfl, by omega, Nat.le_refl _, CQ.out.next ((Ke.refl _ _).drewN _), SQ.out.take (by rw [← HX.out]; exact hc) (.inl (by omega))⟩
                        · subst hav
                          have hjm : (jv : Int) < (m : Int) := by omega
                          have kj := gcell CQ.out.gr (CEL.out jv (by omega))
                          obtain ⟨xj, hxj⟩ : ∃ xj, xj = l.getD jv 0 := ⟨_, rfl⟩
                          rw [← hxj] at kj
                          have HXJ := Lib.hid hxj
                          have dj0 : decide ((jv : Int) < 0) = false := by simp
                          clear hxj
                          by_cases hlt2 : x < xj
                          · have dx : decide (x < xj) = true := by simpa using hlt2
                            have HL := Lib.hid hlt2
                            go_wp2_with fail
                            go_quiet (fail)
                            go_wp2_with fail
                            go_roundg (m - (i + 1))
                            case measure => omega
                            case rel =>
                              obtain ⟨c, hc⟩ := HE.out
                              exact ⟨i + 1, (i : Int), by go_num, rfl, by omega, Nat.le_refl _, CQ.out.next ((Ke.refl _ _).drewN _), SQ.out.take (by rw [← HX.out]; exact hc) (.inr ⟨jv, rfl, by rw [← HX.out, ← HXJ.out]; exact HL.out⟩)⟩
                          · have dx : decide (x < xj) = false := by simpa using hlt2
                            have HL := Lib.hid hlt2
                            go_wp2_with fail
                            go_quiet (fail)
                            go_wp2_with fail
                            go_roundg (m - (i + 1))
                            case measure => omega
                            case rel => exact ⟨i + 1, (jv : Int), by go_num, rfl, by omega, Nat.le_refl _, CQ.out.next ((Ke.refl _ _).drewN _), SQ.out.keep rfl (by have := HL.out; rw [← HX.out, ← HXJ.out]; omega)⟩
                  · have hltz : ¬ (i : Int) < (m : Int) := by omega
                    have CQ := Lib.hid HQ.out.1
                    have SQ : Hid (Sc (elT (fA S) t) s l l.length av) := by
                      have h := HQ.out.2
                      rw [show i = l.length by have := HM.out; omega] at h
                      exact h
                    clear HQ
                    by_cases hav : av < 0
                    · have hdone : Hid (s = tg) := by
                        have h1 := SQ.out.done hav
                        rw [PT.out] at h1
                        exact h1.symm
                      have dav : decide (av < 0) = true := by simpa using hav
                      go_wp2_with fail
                      go_roundg (2 - (t + 1))
                      case measure => omega
                      case rel =>
                        refine ⟨t + 1, by go_num, by omega, Nat.le_refl _, ?_⟩
                        rw [Aside, ← HTG.out, ← hdone.out]
                        exact CQ.out
                    · obtain ⟨j, c0, haj, hjl, hel, hpass⟩ := SQ.out.least (selT (fA S) t) ND.out hav
                      have dav : decide (av < 0) = false := by simpa using hav
                      subst haj
                      obtain ⟨x, hx⟩ : ∃ x, x = l.getD j 0 := ⟨_, rfl⟩
                      rw [← hx] at hel hpass
                      have hxr : x ∈ rise l := by rw [hx]; exact (rise_mem l _).2 (getD_mem' hjl)
                      have hxl : Hid (x ∈ l) := by rw [hx]; exact getD_mem' hjl
                      obtain ⟨iv', hG, hck, hTf, hA0, hlo⟩ := ivT OK.out hk (by rw [rise_length]; have := HM.out; omega) IV.out hxr hel
                      have IV' := Lib.hid iv'
                      have HG := Lib.hid hG
                      have HX := Lib.hid hx
                      have HP := Lib.hid hpass
                      clear iv' hG hel hxr hpass hav
                      by_cases ht0 : t = 0
                      · have dt : ((t : Int) == 0) = true := by simp; omega
                        have hA := hA0 ht0
                        obtain ⟨b, off, rfl, cells⟩ : ∃ b off, a = some ⟨b, off, none⟩ ∧ ∀ j, j < l.length → w.cell? ⟨b, off + j, none⟩ = some (.int .i64 (l.getD j 0)) := by
                          rcases HIN.out with q | q
                          · rw [q] at hjl; simp at hjl
                          · exact q
                        have kx := gcell CQ.out.gr (cells j hjl)
                        rw [← hx] at kx
                        have rf1 := RF.out.gr CQ.out.gr
                        have AT := at_any rf1 x
                        unfold atV at AT
                        obtain ⟨kk, hkk⟩ : ∃ kk, atI S x = some kk := by
                          cases e : atI S x with
                          | none => rw [fA_no e] at hA; cases hA
                          | some kk => exact ⟨kk, rfl⟩
                        rw [hkk] at AT
                        have ATG : Hid (∀ W, Gr wr W → Calls Tryd.prog 17 #[.pointer (some ⟨p, 0, none⟩), .int .i64 x] W fun e w' => e = .returned (.int .i64 kk) ∧ w' = W) := fun W g => by
                          have h := at_any (rf1.gr g) x
                          unfold atV at h
                          rw [hkk] at h
                          exact h
                        simp only at AT
                        have AT := Lib.hid AT
                        have hkl := atI_lt hkk
                        obtain ⟨gl, cap, ev, _⟩ := Row.form rf1.row (by omega)
                        have c1 := rf1.c1
                        have kn := rf1.row
                        rw [ev] at c1 kn
                        have kn1 := kn.cell (kk * 3 + 1) (by omega)
                        rw [tc_at _ kk 1 (by omega)] at kn1
                        simp only [fld] at kn1
                        rw [fA_at hkk] at hA
                        have hcc : (S.getD kk zeroS).c = c0 := by injection hA
                        rw [hcc] at kn1
                        have kz : (kk : Int) < (S.length : Int) := by omega
                        have hjm : (j : Int) < (m : Int) := by have := HM.out; omega
                        have HT0 := Lib.hid ht0
                        clear rf1 ev kn hA hA0 hlo hkk hcc cells hx ht0
                        go_upto_region 35 with fail
                        have CG : Hid (∀ W, Gr wr W → Calls Tryd.prog 17 #[.pointer (some ⟨p, 0, none⟩), .int .i64 x] W fun e w' => e = .returned (.int .i64 kk) ∧ Gr W w') := fun W g => (ATG.out W g).mono fun e w' h => ⟨h.1, by rw [h.2]; exact Ke.refl _ _⟩
                        have kxg := gw_cell kx
                        have c1g := gw_cell c1
                        have kng := gw_cell kn1
                        clear kx c1 kn1
                        have hne : Nonempty (GW wr) := ⟨⟨wr, Ke.refl _ _⟩⟩
                        have hself := @gw_self wr
                        have hself' : ∀ p : GW wr, ∃ q : GW wr, q.W = p.W := fun p => ⟨p, rfl⟩
                        refine wp_region_gw (by first | assumption | kernel_rfl) (by kernel_rfl) ?_
                        repeat (go_big_quiet_step (first | (go_at_call 17; exact gw_of (CG.out _ (GW.gr _)))))
                        refine wpQuiet_nil ?_
                        intro _ hw'
                        obtain ⟨pp, hw''⟩ := hw'
                        subst hw''
                        have CQ := Lib.hid (CQ.out.next pp.gr)
                        clear hne hself hself' CG kxg c1g kng
                        generalize pp.W = wq at *
                        clear pp
                        go_wp2_with fail
                        go_loopg [16] k (fun kx s16 wv => ∃ c' : Nat, s16 = .int .i64 c' ∧ c' = c0 ∧ Aside (Cm w wv gc gt m k (fun j => cg s (l.getD j 0)) s.T))
                        case atStart => exact ⟨c0, rfl, rfl, CQ.out⟩
                        case round =>
                          obtain ⟨c', rfl, hcc0, HC⟩ := hrel
                          subst hcc0
                          have ktc := HC.out.ct hck
                          have hcz : (c' : Int) < (k : Int) := by omega
                          have dt1 : ((t : Int) == 1) = false := by have := HT0.out; simp; omega
                          rw [hTf] at ktc
                          have CW := Lib.hid HC.out
                          have kcj := HC.out.cc (show j < m by have := HM.out; omega)
                          have zcj := HC.out.zc j
                          have ztc := HC.out.zt c'
                          have nct := HC.out.ne
                          have nct2 : gt ≠ gc := Ne.symm nct
                          clear HC
                          go_wp2_with fail
                          go_roundg (un l (s.on x c'))
                          case measure => have := un_on (c := c') hxl.out HG.out; omega
                          case rel =>
                            refine ⟨s.on x c', Nat.le_refl _, ((CW.out.set j c').setT c').congr (fun j' hj' => ?_) (fun c hc => rfl), IV'.out, by rw [HP.out]; exact PT.out⟩
                            by_cases e : j' = j
                            · rw [e, upd_same, ← HX.out, cg_some on_same]
                            · rw [upd_other _ _ e]
                              unfold cg
                              rw [on_other (by rw [HX.out]; exact nd_ne ND.out (by have := HM.out; omega) hjl e)]
                      · have dt : ((t : Int) == 0) = false := by simp; omega
                        have hlow : ∀ q, q < c0 → s.T q = true := fun q hq => by
                          have e := hlo ht0
                          rw [e] at hq hTf hck
                          exact (low_spec hTf (by omega)).2.2 q hq
                        clear hA0 hlo hx
                        go_wp2_with fail
                        go_loopg [16] k (fun kx s16 wv => ∃ c' : Nat, s16 = .int .i64 c' ∧ c' ≤ c0 ∧ c0 - c' ≤ kx ∧ (t = 0 → c' = c0) ∧ Aside (Cm w wv gc gt m k (fun j => cg s (l.getD j 0)) s.T))
                        case atStart => exact ⟨0, rfl, by omega, by omega, by omega, CQ.out⟩
                        case round =>
                          obtain ⟨c', rfl, hc', hcx, hct, HC⟩ := hrel
                          have ktc := HC.out.ct (show c' < k by omega)
                          have hcz : (c' : Int) < (k : Int) := by omega
                          have dt1 : ((t : Int) == 1) = true := by simp; omega
                          by_cases hcc : c' < c0
                          · have hT : s.T c' = true := hlow c' hcc
                            rw [hT] at ktc
                            have CW := Lib.hid HC.out
                            clear HC
                            go_wp2_with fail
                            go_roundg (c0 - (c' + 1))
                            case measure => omega
                            case rel => exact ⟨c' + 1, by go_num, by omega, Nat.le_refl _, by omega, CW.out⟩
                          · have hcc0 : c' = c0 := by omega
                            subst hcc0
                            rw [hTf] at ktc
                            have CW := Lib.hid HC.out
                            have kcj := HC.out.cc (show j < m by have := HM.out; omega)
                            have zcj := HC.out.zc j
                            have ztc := HC.out.zt c'
                            have nct := HC.out.ne
                            have nct2 : gt ≠ gc := Ne.symm nct
                            have hjz : (j : Int) < (m : Int) := by have := HM.out; omega
                            clear HC
                            go_wp2_with fail
                            go_roundg (un l (s.on x c'))
                            case measure => have := un_on (c := c') hxl.out HG.out; omega
                            case rel =>
                              refine ⟨s.on x c', Nat.le_refl _, ((CW.out.set j c').setT c').congr (fun j' hj' => ?_) (fun c hc => rfl), IV'.out, by rw [HP.out]; exact PT.out⟩
                              by_cases e : j' = j
                              · rw [e, upd_same, ← HX.out, cg_some on_same]
                              · rw [upd_other _ _ e]
                                unfold cg
                                rw [on_other (by rw [HX.out]; exact nd_ne ND.out (by have := HM.out; omega) hjl e)]
            · have htz : ¬ (t : Int) < 2 := by omega
              obtain ⟨sF, hsF⟩ : ∃ sF, sF = sit k (fA S) (fN S) (rise l) := ⟨_, rfl⟩
              have CF : Hid (Cm w wr gc gt m k (fun j => cg sF (l.getD j 0)) sF.T) := by
                have h := HT.out
                rw [show t = 2 by omega] at h
                rw [hsF]
                exact h
              have HSF := Lib.hid hsF
              have rf0 := RF.out.gr CF.out.gr
              obtain ⟨xv, cv, hv0⟩ := RF.out.form
              rw [hv0] at rf0
              have HV := Lib.hid hv0
              have RF0 := Lib.hid rf0
              have c1 := rf0.c1
              clear HT hsF rf0 hv0
              go_wp2_with fail
              go_loopg [17] S.length (fun kx s17 wv => ∃ i : Nat, s17 = .int .i64 i ∧ i ≤ S.length ∧ S.length - i ≤ kx ∧ Aside (Rf wv base p k (.slice xv S.length cv) (offT S i) ∧ Ke (fun j => v.ownBlock = some j) wr wv))
              case atStart => exact ⟨0, rfl, by omega, by omega, by rw [offT_zero]; exact RF0.out, Ke.refl _ _⟩
              case round =>
                obtain ⟨i, rfl, hi, hix, HO⟩ := hrel
                by_cases hlt : i < S.length
                · have hltz : (i : Int) < (S.length : Int) := by omega
                  have rfi := HO.out.1
                  obtain ⟨g, cap, ev, _⟩ := Row.form rfi.row (by rw [offT_length]; omega)
                  obtain ⟨exv, ecv⟩ : xv = some ⟨g, 0, none⟩ ∧ cv = cap := by injection ev with a b c; exact ⟨a, c⟩
                  clear ev
                  subst exv ecv
                  have c1 := rfi.c1
                  have row := rfi.row
                  rw [offT_length] at row
                  have kn := row.cell (i * 3 + 2) (by omega)
                  have zn := row.frozen (i * 3 + 2)
                  have RN := Lib.hid (rfi.off hlt)
                  have KO := Lib.hid HO.out.2
                  clear HO rfi row
                  go_wp2_with fail
                  go_roundg (S.length - (i + 1))
                  case measure => omega
                  case rel => exact ⟨i + 1, by go_num, by omega, Nat.le_refl _, RN.out, KO.out.set (p := ⟨g, i * 3 + 2, none⟩) (.inl (by rw [HV.out]; rfl)) _⟩
                · have hltz : ¬ (i : Int) < (S.length : Int) := by omega
                  have RA : Hid (Rf wr base p k v (offS S)) := by
                    have h := HO.out.1
                    rw [show i = S.length by omega, offT_all, ← HV.out] at h
                    exact h
                  have KA := Lib.hid HO.out.2
                  have c1 := HO.out.1.c1
                  clear HO
                  have CO : Hid (∀ j, j < m → wr.cell? ⟨gc, j, none⟩ = some (.int .i64 (cg sF (l.getD j 0)))) := fun j hj => by
                    have k0 := CF.out.cc hj
                    refine (KA.out.cell (lt_of_cell k0) (fun q => ?_)).trans k0
                    have : gc < w.heap.size := (Row.lt RF.out.row (g := gc) q).2
                    omega
                  have CZ : Hid (Row wr w.heap.size 3 1 (.slice (some ⟨gc, 0, none⟩) m m) m (fun j => .int .i64 (cg sF (l.getD j 0)))) := CF.out.core.keep (fun g hg => by
                    cases hg
                    refine KA.out.block gc (Row.lt CF.out.core (g := gc) rfl).2 (fun q => ?_)
                    have : gc < w.heap.size := (Row.lt RF.out.row (g := gc) q).2
                    omega)
                  have KW : Hid (Ke (fun j => j = p ∨ v.ownBlock = some j) w wr) := (CF.out.gr.of_gr : Ke (fun j => j = p ∨ v.ownBlock = some j) w _).trans (KA.out.mono (fun j _ q => .inr q))
                  have hgcw : gc < wr.heap.size := (Row.lt CZ.out (g := gc) rfl).2
                  have szw := KW.out.size
                  obtain ⟨w6, hw6⟩ : ∃ w6, w6 = wr := ⟨_, rfl⟩
                  have HW6 := Lib.hid hw6
                  rw [← hw6] at hgcw szw
                  clear hw6
                  have RA' : Hid (Rf wr base p k v (finS (offS S) (fun x => (sF.G x).getD 0) (l.take 0))) := by rw [Hid, List.take_zero]; exact RA.out
                  clear RA
                  go_wp2_with fail
                  go_loopg [18] m (fun kx s18 wv => ∃ i : Nat, s18 = .int .i64 i ∧ i ≤ m ∧ m - i ≤ kx ∧ Aside (∃ vv, Lo w w6 wv base p k gc m v vv (finS (offS S) (fun x => (sF.G x).getD 0) (l.take i)) sF l))
                  case atStart => exact ⟨0, rfl, by omega, by omega, v, RA'.out, KW.out, fun j hj => .inl hj, CZ.out, by rw [HW6.out]; exact Nat.le_refl _⟩
                  case round =>
                    obtain ⟨i, rfl, hi, hix, HO⟩ := hrel
                    by_cases hlt : i < m
                    · have hltz : (i : Int) < (m : Int) := by omega
                      have hil : i < l.length := by rw [← HM.out]; exact hlt
                      obtain ⟨vv, lo⟩ := HO.out
                      have LO := Lib.hid lo
                      obtain ⟨rfv, kw, ob, rowc, sz⟩ := lo
                      obtain ⟨b, off, rfl, cells⟩ : ∃ b off, a = some ⟨b, off, none⟩ ∧ ∀ j, j < l.length → w.cell? ⟨b, off + j, none⟩ = some (.int .i64 (l.getD j 0)) := by
                        rcases HIN.out with q | q
                        · rw [q] at hil; simp at hil
                        · exact q
                      have idc : ∀ W, Ke (fun j => j = p ∨ v.ownBlock = some j) w W → W.cell? ⟨b, off + i, none⟩ = some (.int .i64 (l.getD i 0)) := fun W kW => by
                        have k0 := cells i hil
                        exact (kW.cell (lt_of_cell k0) (fun q => OFF.out b off rfl (by omega) q)).trans k0
                      have ki := idc _ kw
                      obtain ⟨x, hx⟩ : ∃ x, x = l.getD i 0 := ⟨_, rfl⟩
                      rw [← hx] at ki
                      have FG := Lib.hid (forget_rf rfv (Nat.le_trans hb kw.size) x)
                      have IDC := Lib.hid idc
                      have OB := Lib.hid ob
                      have KW2 := Lib.hid kw
                      have RC := Lib.hid rowc
                      have SZ := Lib.hid sz
                      have HX := Lib.hid hx
                      have hdl : (finS (offS S) (fun x => (sF.G x).getD 0) (l.take i)).length ≤ S.length + i := by
                        have := fin_len (C := fun x => (sF.G x).getD 0) (l := l.take i) (S := offS S)
                        rw [List.length_take] at this
                        have h2 : (offS S).length = S.length := by simp [offS]
                        omega
                      have HFT : Hid (finS (offS S) (fun x => (sF.G x).getD 0) (l.take (i + 1)) = putS (finS (offS S) (fun x => (sF.G x).getD 0) (l.take i)) x ((sF.G x).getD 0)) := by rw [Hid, hx]; exact fin_take hil
                      clear HO rfv kw ob rowc sz idc cells hx RA' KW
                      generalize finS (offS S) (fun x => (sF.G x).getD 0) (l.take i) = SS at *
                      go_wp2_with fail
                      refine FG.out.mono ?_
                      rintro e w7 ⟨rfl, v7, rf7, k7, ob7⟩
                      have kw7 : Ke (fun j => j = p ∨ v.ownBlock = some j) w w7 := KW2.out.trans (k7.mono (fun j _ q => .inl q))
                      have ki := IDC.out _ kw7
                      rw [← HX.out] at ki
                      obtain ⟨cx, hcx⟩ : ∃ cx, sF.G x = some cx := by
                        have := sit_all (k := k) (A := fA S) (N := fN S) (l := rise l) (x := x) ((rise_mem l x).2 (by rw [HX.out]; exact getD_mem' hil))
                        rw [← HSF.out] at this
                        cases e : sF.G x with
                        | none => exact absurd e this
                        | some c => exact ⟨c, rfl⟩
                      have rowc7 : Row w7 w.heap.size 3 1 (.slice (some ⟨gc, 0, none⟩) m m) m (fun j => .int .i64 (cg sF (l.getD j 0))) := RC.out.keep (fun g hg => by
                        cases hg
                        refine k7.block gc (Row.lt RC.out (g := gc) rfl).2 (fun q => ?_)
                        have h1 : p < w.heap.size := lt_of_cell RF.out.c0
                        have q' : gc = p := q
                        omega)
                      have kcx : w7.cell? ⟨gc, i, none⟩ = some (.int .i64 (cg sF (l.getD i 0))) := rowc7.cell i (by omega)
                      rw [← HX.out, cg_some hcx] at kcx
                      have hdl7 : (delS SS x).length ≤ S.length + i := Nat.le_trans (del_len SS x) hdl
                      have R7 := Lib.hid rf7.row
                      have RF7 := Lib.hid rf7
                      have K7 := Lib.hid kw7
                      have OB7 := Lib.hid ob7
                      have RC7 := Lib.hid rowc7
                      have hbw7 : base ≤ w7.heap.size := Nat.le_trans hb kw7.size
                      have c17 := rf7.c1
                      have z17 := rf7.fz 1
                      have HCX := Lib.hid hcx
                      have BX : Hid (∀ X, Gr w7 X → X.cell? ⟨p, 1, none⟩ = some v7 ∧ X.frozen? ⟨p, 1, none⟩ = false ∧ X.cell? ⟨b, off + i, none⟩ = some (.int .i64 x) ∧ X.cell? ⟨gc, i, none⟩ = some (.int .i64 (cx : Int))) := fun X g => ⟨gcell g c17, (rf7.gr g).fz 1, gcell g ki, gcell g kcx⟩
                      have STEP : Hid (∀ X X1 v8, Gr w7 X → ApP X base v7 (delS SS x ++ [⟨x, cx, true⟩]) v8 X1 → Lo w w6 (X1.setCell ⟨p, 1, none⟩ v8) base p k gc m v v8 (finS (offS S) (fun x => (sF.G x).getD 0) (l.take (i + 1))) sF l) := fun X X1 v8 g q => by
                        have h := lo_step LO.out (fun j hj => (Row.lt RF.out.row hj).2) (lt_of_cell RF.out.c0) szw hgcw cgz rf7 k7 ob7 g q (by omega)
                        rw [HFT.out]
                        unfold putS
                        rw [HCX.out]
                        exact h
                      obtain ⟨x7, c7, e7⟩ := rf7.form
                      rw [e7] at BX
                      have E7 := Lib.hid e7
                      clear FG rf7 k7 kw7 ob7 rowc7 hcx e7 c17 z17 ki kcx
                      have ⟨c17, z17, ki, kcx⟩ := BX.out w7 (Ke.refl _ _)
                      have R7' : Hid (Row w7 base 57 3 (.slice x7 (delS SS x).length c7) (delS SS x).length (tl (delS SS x))) := by rw [Hid, ← E7.out]; exact R7.out
                      have ⟨c18, z18, ki8, kcx8⟩ := BX.out _ ((Ke.refl (fun _ => False) w7).alloc (.cells #[.int .i64 x, .int .i64 cx, .bool true] 57))
                      have ST := STEP
                      rw [E7.out] at ST
                      have RF7' : Hid (Rf w7 base p k (.slice x7 (delS SS x).length c7) (delS SS x)) := by rw [Hid, ← E7.out]; exact RF7.out
                      go_wp2_with fail
                      go_region_law
                        (refine step_app rfl (.tmp 220) (.tmp 230) rfl R7'.out hbw7 (by omega) (by repeat (first | with_reducible assumption | with_reducible exact Ke.refl _ _ | with_reducible apply Ke.drew | with_reducible apply Ke.alloc)) ⟨x, cx, true⟩ w7.heap.size (fun j hj => by rcases j with _ | _ | _ | j <;> first | omega | simp [go_sem, fld]) rfl rfl ?_; intro v8 X8 Q8; obtain ⟨xa, ma, ca, rfl⟩ := Q8.form; have ⟨e8, z8⟩ := ApP.cell RF7'.out (by repeat (first | with_reducible assumption | with_reducible exact Ke.refl _ _ | with_reducible apply Ke.drew | with_reducible apply Ke.alloc)) Q8; have PU := Lib.hid (ST.out _ _ _ (by repeat (first | with_reducible assumption | with_reducible exact Ke.refl _ _ | with_reducible apply Ke.drew | with_reducible apply Ke.alloc)) Q8))
                      all_goals
                        clear Q8 e8 z8
                        go_wp2_with fail
                        go_roundg (m - (i + 1))
                      all_goals try (case measure => omega)
                      all_goals
                        exact ⟨i + 1, by go_num, by omega, Nat.le_refl _, _, PU.out⟩
                    · have hltz : ¬ (i : Int) < (m : Int) := by omega
                      obtain ⟨vv, lo⟩ := HO.out
                      rw [List.take_of_length_le (by have := HM.out; omega)] at lo
                      have LO := Lib.hid lo
                      clear HO lo
                      go_wp2_with fail
                      go_ret2
                      exact refq_ok HSF.out HM.out (by have := HM.out; omega) hk ND.out HS.out OK.out LO.out
end Go.Proofs.YtnmdidglfegdcaaDoor
