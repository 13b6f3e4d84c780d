/- Jobs: Settle walked. -/
import Derived.Test.YtlpjojegdnconaaDoorU3
namespace Go.Proofs.YtlpjojegdnconaaDoor
open Go.RowKit Go.Lib Go.Maps
open Ca (Ke Gr Sv Row Cl Ky Bs blk_other)
set_option linter.unusedVariables false
set_option maxRecDepth 100000
set_option maxHeartbeats 4000000
theorem cl_len {w : World} {base : Bs} {p c : Nat} {F : Nat → Prop} {L : List Ky} (h : Cl w base p c F L) : L.length ≤ 65536 := by
  obtain ⟨M, cal, _⟩ := h.ex
  rcases cal with ⟨_, h0, _⟩ | ⟨Fc, F0, F1, g, cap, p0, p1, o, hc3, t, rfl⟩
  · omega
  · obtain ⟨v, u, T, L, S, m, _⟩ := hc3.s0
    exact m.n6
theorem pid_count {S : List Tk} {Du : List Ky} {k mi : Nat} (h : k < Du.length) (hmi : mi = (pid Du k).countP (neS S)) {b : Bool} (hb : neS S (Du[k]).2 = b) : (if b = true then mi + 1 else mi) = (pid Du (k + 1)).countP (neS S) := by
  rw [pid_succ h, List.countP_append, ← hmi, List.countP_singleton, hb]
  cases b <;> rfl
section
variable {w : World} {base p n c g bm : Nat} {v : Value} {m : Nat} {A : Nat → Option Int} {T : Nat → Tk} {D : DataW Unit} {Fc : Nat → Prop} {L : List Ky} {q cap : Nat} {S : List Tk} {F : Nat → Prop} {t : Int}
theorem settle_jb (h : Jb w base p n c F S) (hb : base ≤ w.heap.size) (t : Int) :
    Calls Tryd.prog 21 #[.pointer (some ⟨p, 0, none⟩), .int .i64 t] w fun e w' => StlQ w base p n c F S t e w' := by
  obtain ⟨g, bm, v, m, A, T, D, Fc, L, hx, a, sl, lk, rfl⟩ := h.ex
  clear h
  have hL := cl_len hx.cl
  have C := Lib.hid (Ca.cl_due hx.cl (by omega) t)
  have hle : (Ca.due t L).length ≤ 65536 := Nat.le_trans (List.Sublist.length_le (List.takeWhile_sublist _)) hL
  have SS := Lib.hid (fun dv w1 d => sti_start (dv := dv) (w1 := w1) (t := t) hx lk d S)
  have EN := Lib.hid (fun u wr dv mi (h : StI w base p n c g bm v m A T S (FJ g bm v Fc) (Ca.due t L) (Ca.late t L) dv (Ca.due t L).length u wr) (hmi : mi = (pid (Ca.due t L) (Ca.due t L).length).countP (neS S)) => sti_end h a sl lk hx.cl.srt (by omega) (mi := mi) (by rw [hmi]; unfold pid; rw [List.take_length]))
  have HA := Lib.hid a
  have HS := Lib.hid sl
  clear hx lk a sl hL
  obtain ⟨Du, hDu⟩ : ∃ Du, Du = Ca.due t L := ⟨_, rfl⟩
  obtain ⟨Lt, hLt⟩ : ∃ Lt, Lt = Ca.late t L := ⟨_, rfl⟩
  rw [← hDu, ← hLt] at SS EN
  rw [← hDu] at hle
  have HD := Lib.hid hDu
  have HT := Lib.hid hLt
  clear hDu hLt
  go_enter Tryd.func21, Tryd.ntmps21
  go_wp2_with fail
  refine C.out.mono ?_
  rintro e w1 ⟨dv, rfl, d⟩
  have d2 := d
  rw [← HD.out, ← HT.out] at d2
  have SI := Lib.hid (SS.out dv w1 d2)
  clear C SS d d2
  rcases SI.out.dr.shape with ⟨rfl, hd0⟩ | ⟨g', cap', rfl, _⟩
  · have E := Lib.hid (EN.out (.slice none 0 0) w1 (.slice none 0 0) 0 (by rw [hd0]; exact SI.out) (by rw [hd0]; rfl))
    clear EN SI hd0 hle
    go_wp2_with fail
    go_loopg [6, 7, 19] 0 (fun kx s6 s7 s19 wr => s6 = .slice none 0 0 ∧ s7 = .int .i64 0 ∧ s19 = .int .i64 0 ∧ wr = w1)
    case atStart => exact ⟨rfl, rfl, rfl, rfl⟩
    case round =>
      obtain ⟨rfl, rfl, rfl, rfl⟩ := hrel
      go_wp2_with fail
      refine E.out.mono ?_
      rintro e w2 ⟨rfl, Q⟩
      have QQ := Lib.hid Q
      clear E Q
      go_wp2_with fail
      go_ret2
      exact QQ.out
  · obtain ⟨N, hN⟩ : ∃ N, N = Du.length := ⟨_, rfl⟩
    rw [← hN] at hle
    have HN := Lib.hid hN
    have SI2 : Hid (StI w base p n c g bm v m A T S (FJ g bm v Fc) Du Lt (.slice (some ⟨g', 0, none⟩) N cap') 0 (.slice none 0 0) w1) := by rw [HN.out]; exact SI.out
    rw [← hN]
    clear SI hN
    go_wp2_with fail
    go_loopg [6, 7, 19] N (fun kx s6 s7 s19 wr => ∃ (k mi : Nat) (u : Value), u = s6 ∧ s7 = .int .i64 mi ∧ s19 = .int .i64 k ∧ k ≤ N ∧ N - k ≤ kx ∧ mi ≤ k ∧ Aside (mi = (pid Du k).countP (neS S) ∧ StI w base p n c g bm v m A T S (FJ g bm v Fc) Du Lt (.slice (some ⟨g', 0, none⟩) N cap') k u wr))
    case atStart => exact ⟨0, 0, _, rfl, rfl, rfl, by omega, by omega, by omega, rfl, SI2.out⟩
    case round =>
      obtain ⟨k, mi, u, rfl, rfl, rfl, hk, hkx, hmk, SI⟩ := hrel
      clear SI2
      by_cases hlt : k < N
      · have hltz : (k : Int) < (N : Int) := by omega
        have hkD : k < Du.length := by rw [← HN.out]; exact hlt
        obtain ⟨s, hs, hn, hs', hTs⟩ := SI.out.2.task HA.out hkD
        obtain ⟨D1, Fc1, hx, sv, nu, nd⟩ := SI.out.2.ex
        obtain ⟨hsm, q, cap, rfl⟩ := hx.form hs'
        have dr := SI.out.2.dr
        rw [← HN.out] at dr
        have dc := dr.cell k (by omega)
        have di : Ca.idc Du k = .int .i64 (Du[k]).2 := by unfold Ca.idc; rw [List.getD_eq_getElem?_getD, List.getElem?_eq_getElem hkD]; rfl
        rw [di] at dc
        have ok := HA.out.ok s _ hs
        have hid := HA.out.id s _ hs
        have hiw : (Lit.int .i64 (Du[k]).2).wf = true := by rw [← hid]; exact ok.wf
        have FI := Lib.hid (find_some hx hiw hs')
        have k1 := hx.cell hsm (o := 1) (by omega)
        have k8 := hx.cell hsm (o := 8) (by omega)
        have k4 := hx.cell hsm (o := 4) (by omega)
        rw [hTs] at k1 k8 k4
        simp only [fld] at k1 k8 k4
        have CF := Lib.hid (full_any q (s * 11) (T s).g (T s).e wr k8 k1)
        have hne : neS S (Du[k]).2 = !decide ((T s).g = (T s).e) := by unfold neS; rw [HS.out.get HA.out hs]; simp
        have hls : leS S (Du[k]).2 = (T s).le := by unfold leS; rw [HS.out.get HA.out hs]
        have CN := Lib.hid (fun b (hb : neS S (Du[k]).2 = b) => pid_count hkD SI.out.1 hb)
        have STAY := Lib.hid (fun (hl : (T s).le = false) W (G : Gr wr W) w2 K j2 => sti_stay (SI.out.2.gr G) HA.out hkD hs hn (hls.trans hl) hl (D := D1) (Fc := Fc1) (w2 := w2) K nu nd (sv.trans (Ca.Sv.of_gr G)) j2)
        have GO := Lib.hid (fun (hl : (T s).le = true) W (G : Gr wr W) w2 K D2 j2 => sti_go (SI.out.2.gr G) HA.out hkD (by rw [← HN.out]; omega) hs hn (hls.trans hl) hl (D := D2) (Fc := Fc1) (w2 := w2) K nu nd (sv.trans (Ca.Sv.of_gr G)) j2)
        have EJ := Lib.hid (fun W (G : Gr wr W) => end_jx (hx.gr G) hsm hTs)
        have RM := Lib.hid (fun W (G : Gr wr W) => remove_any' (hx.gr G) hiw hs')
        clear EN hx sv nu nd dr di ok hid hiw hs hn hs' k1 k8 hsm
        generalize (Du[k]).2 = i at *
        obtain ⟨b, hb⟩ : ∃ b, decide ((T s).g = (T s).e) = b := ⟨_, rfl⟩
        obtain ⟨le, hle'⟩ : ∃ le, (T s).le = le := ⟨_, rfl⟩
        rw [hb] at CF hne
        rw [hle'] at k4 STAY GO
        have HNE := Lib.hid hne
        clear hb hle' hne hls hTs
        cases b
        · cases le
          · go_wp2_with fail
            refine FI.out.mono ?_
            rintro e w2 ⟨rfl, hw⟩
            obtain rfl := hw.symm
            clear hw FI
            go_wp2_with fail
            refine CF.out.mono ?_
            rintro e w2 ⟨rfl, g2⟩
            have k4' := Ca.gcell g2 k4
            have cn := CN.out true HNE.out
            have CN2 := Lib.hid cn
            have EJ2 := Lib.hid (EJ.out w2 g2)
            have ST2 := Lib.hid (STAY.out (by simp) w2 g2)
            clear CF CN cn EJ RM STAY GO g2 k4 dc
            go_wp2_with fail
            refine EJ2.out.mono ?_
            rintro e w3 ⟨rfl, K3, j3⟩
            have NX := Lib.hid (ST2.out w3 K3 j3)
            clear EJ2 ST2 K3 j3
            go_wp2_with fail
            go_roundg (N - (k + 1))
            case measure => omega
            case rel => exact ⟨k + 1, mi + 1, _, rfl, by go_num, by go_num, by omega, Nat.le_refl _, by omega, by simpa using CN2.out, NX.out⟩
          · go_wp2_with fail
            refine FI.out.mono ?_
            rintro e w2 ⟨rfl, hw⟩
            obtain rfl := hw.symm
            clear hw FI
            go_wp2_with fail
            refine CF.out.mono ?_
            rintro e w2 ⟨rfl, g2⟩
            have k4' := Ca.gcell g2 k4
            have cn := CN.out true HNE.out
            have CN2 := Lib.hid cn
            have RM2 := Lib.hid (RM.out w2 g2)
            have GO2 := Lib.hid (GO.out (by simp) w2 g2)
            clear CF CN cn EJ RM STAY GO g2 k4 dc
            go_wp2_with fail
            refine RM2.out.mono ?_
            rintro e w3 ⟨rfl, D2, j3, K3⟩
            obtain ⟨u', w4, hrun, nx⟩ := GO2.out w3 K3 D2 j3
            have HR := Lib.hid hrun
            have NX := Lib.hid nx
            clear RM2 GO2 K3 j3 hrun nx
            go_wp2_with (at_builtin; refine Lib.wpList_append_run _ rfl _ _ 42 42 rfl _ _ rfl rfl _ _ HR.out ?_)
            go_roundg (N - (k + 1))
            case measure => omega
            case rel => exact ⟨k + 1, mi + 1, _, rfl, by go_num, by go_num, by omega, Nat.le_refl _, by omega, by simpa using CN2.out, NX.out⟩
        · cases le
          · go_wp2_with fail
            refine FI.out.mono ?_
            rintro e w2 ⟨rfl, hw⟩
            obtain rfl := hw.symm
            clear hw FI
            go_wp2_with fail
            refine CF.out.mono ?_
            rintro e w2 ⟨rfl, g2⟩
            have k4' := Ca.gcell g2 k4
            have cn := CN.out false HNE.out
            have CN2 := Lib.hid cn
            have EJ2 := Lib.hid (EJ.out w2 g2)
            have ST2 := Lib.hid (STAY.out (by simp) w2 g2)
            clear CF CN cn EJ RM STAY GO g2 k4 dc
            go_wp2_with fail
            refine EJ2.out.mono ?_
            rintro e w3 ⟨rfl, K3, j3⟩
            have NX := Lib.hid (ST2.out w3 K3 j3)
            clear EJ2 ST2 K3 j3
            go_wp2_with fail
            go_roundg (N - (k + 1))
            case measure => omega
            case rel => exact ⟨k + 1, mi, _, rfl, by go_num, by go_num, by omega, Nat.le_refl _, by omega, by simpa using CN2.out, NX.out⟩
          · go_wp2_with fail
            refine FI.out.mono ?_
            rintro e w2 ⟨rfl, hw⟩
            obtain rfl := hw.symm
            clear hw FI
            go_wp2_with fail
            refine CF.out.mono ?_
            rintro e w2 ⟨rfl, g2⟩
            have k4' := Ca.gcell g2 k4
            have cn := CN.out false HNE.out
            have CN2 := Lib.hid cn
            have RM2 := Lib.hid (RM.out w2 g2)
            have GO2 := Lib.hid (GO.out (by simp) w2 g2)
            clear CF CN cn EJ RM STAY GO g2 k4 dc
            go_wp2_with fail
            refine RM2.out.mono ?_
            rintro e w3 ⟨rfl, D2, j3, K3⟩
            obtain ⟨u', w4, hrun, nx⟩ := GO2.out w3 K3 D2 j3
            have HR := Lib.hid hrun
            have NX := Lib.hid nx
            clear RM2 GO2 K3 j3 hrun nx
            go_wp2_with (at_builtin; refine Lib.wpList_append_run _ rfl _ _ 42 42 rfl _ _ rfl rfl _ _ HR.out ?_)
            go_roundg (N - (k + 1))
            case measure => omega
            case rel => exact ⟨k + 1, mi, _, rfl, by go_num, by go_num, by omega, Nat.le_refl _, by omega, by simpa using CN2.out, NX.out⟩
      · have hltz : ¬ (k : Int) < (N : Int) := by omega
        obtain rfl : N = k := by omega
        have E := Lib.hid (EN.out u wr (.slice (some ⟨g', 0, none⟩) N cap') mi (by rw [← HN.out]; exact SI.out.2) (by rw [← HN.out]; exact SI.out.1))
        clear EN SI
        go_wp2_with fail
        refine E.out.mono ?_
        rintro e w2 ⟨rfl, Q⟩
        have QQ := Lib.hid Q
        clear E Q
        go_wp2_with fail
        go_ret2
        exact QQ.out
end
end Go.Proofs.YtlpjojegdnconaaDoor
