/- JobsCount walked. -/
import Derived.Test.YtlpjojegdnconaaDoorV5
namespace Go.Proofs.YtlpjojegdnconaaDoor
open Go.RowKit Go.Lib Go.Maps
open Ca (Ke Gr Sv Row Cl Ky Bs blk_other)
set_option linter.unusedVariables false
set_option maxRecDepth 100000
set_option maxHeartbeats 8000000

/-- A slice of bools that came in. -/
def BoolsIn (w : World) (a : Option Addr) (n : Nat) : Prop := n = 0 ∨ ∃ (b off : Nat) (q : Nat → Bool), a = some ⟨b, off, none⟩ ∧ b < w.heap.size ∧ ∀ i, i < n → w.cell? ⟨b, off + i, none⟩ = some (.bool (q i))
theorem join_two {E k : Int} (h1 : 1 ≤ E) (h2 : E ≤ k) (h3 : k ≤ 12) : joE [] 2 1 E k = 0 ∧ joS [] 2 1 E k false = [newT 1 E k false] ∧ joE [newT 1 E k false] 2 2 E k = 0 ∧ joS [newT 1 E k false] 2 2 E k true = [newT 1 E k false, newT 2 E k true] := by
  have hc : canT E k = true := by unfold canT; simp; omega
  have e : joE [] 2 1 E k = 0 := by unfold joE; rw [hc]; simp [getT]
  have e2 : joE [newT 1 E k false] 2 2 E k = 0 := by unfold joE; rw [hc]; simp [getT, newT]
  exact ⟨e, by unfold joS; rw [if_pos e]; rfl, e2, by unfold joS; rw [if_pos e2]; simp [insT, newT]⟩
theorem cS_start (K N : Nat) : cS K N 0 0 0 0 = [newT 1 K N false, newT 2 K N true] := by
  unfold cS c1T c2T newT
  simp
theorem cS_one (K N q m fr mn : Nat) : getT (cS K N q m fr mn) 1 = some (c1T K N q m) := rfl
theorem cS_two (K N q m fr mn : Nat) : getT (cS K N q m fr mn) 2 = some (c2T K N (N * q + m) fr mn) := rfl
theorem c_next {cc c l : Nat} (h : cc ≤ 2 * c) (hl : l ≤ 2) : cc + l ≤ 2 * (c + 1) := by omega

theorem count_walk (a : Option Addr) (n cap : Nat) (e p : Nat) (he : e < 256) (hp : p < 256) (w : World) (hB : BoolsIn w a n) (hT : Tab w) :
    Calls Tryd.prog 5 #[.int .u8 e, .int .u8 p, .slice a n cap] w fun x w' => x = .returned (.bool true) ∧ Gr w w' := by
  have AW := Lib.hid (awake_true w hT)
  obtain ⟨kp, hkp⟩ : ∃ kp, kp = p % 9 := ⟨_, rfl⟩
  have k1 : ((p : Nat) : Int) % 9 = (kp : Int) := by omega
  have k2 : ((p : Nat) : Int).tmod 9 = (kp : Int) := by rw [Int.tmod_eq_emod_of_nonneg (by omega)]; exact k1
  obtain ⟨N, hN⟩ : ∃ N, N = kp + 1 := ⟨_, rfl⟩
  have k3 : 1 + (kp : Int) = (N : Int) := by omega
  have hN9 : 1 ≤ N ∧ N ≤ 9 := by omega
  obtain ⟨ea, hea⟩ : ∃ ea, ea = e % N := ⟨_, rfl⟩
  have hea2 : ea < N := by rw [hea]; exact Nat.mod_lt _ (by omega)
  have a1 : ((e : Nat) : Int) % (N : Int) = (ea : Int) := by rw [hea]; exact (Int.natCast_emod e N).symm
  have a2 : ((e : Nat) : Int).tmod (N : Int) = (ea : Int) := by rw [Int.tmod_eq_emod_of_nonneg (by omega)]; exact a1
  obtain ⟨K, hK⟩ : ∃ K, K = ea + 1 := ⟨_, rfl⟩
  have a3 : 1 + (ea : Int) = (K : Int) := by omega
  have kz : ¬ (N : Int) = 0 := by omega
  have hK9 : 1 ≤ K ∧ K ≤ 9 := by omega
  have JO := Lib.hid (join_two (E := K) (k := N) (by omega) (by omega) (by omega))
  rw [← cS_start K N] at JO
  have HN9 := Lib.hid hN9
  have HB := Lib.hid hB
  clear hkp hN hea hK hea2 hB
  go_enter Tryd.func5, Tryd.ntmps5
  go_wp2_with fail
  refine AW.out.mono ?_
  rintro x wa ⟨rfl, ga⟩
  have C := Lib.hid (jw_new hT ga 2 2 (by omega) (by simp))
  clear ga AW hT
  go_wp2_with fail
  refine C.out.mono ?_
  rintro x w1 ⟨q0, F1, rfl, h1, -, -⟩
  have C := Lib.hid (jw_join h1 1 K N false (by decide))
  rw [JO.out.1, JO.out.2.1] at C
  clear h1 k1 k2 k3 hK9
  go_wp2_with fail
  refine C.out.mono ?_
  rintro x w2 ⟨rfl, F2, h2, s2⟩
  have C := Lib.hid (jw_join h2 2 K N true (by decide))
  rw [JO.out.2.2.1, JO.out.2.2.2] at C
  clear h2 s2 JO a1 a2 a3 kz
  by_cases hn : (n : Int) > 100
  · have dn : decide ((n : Int) > 100) = true := decide_eq_true hn
    go_wp2_with fail
    refine C.out.mono ?_
    rintro x w3 ⟨rfl, F3, h3, s3⟩
    have H3 := Lib.hid h3
    clear h3 s3 C
    go_wp2_with fail
    go_ret
    exact ⟨rfl, H3.out.gr⟩
  have dn : decide ((n : Int) > 100) = false := decide_eq_false hn
  have hn1 : n ≤ 100 := by omega
  clear hn
  go_wp2_with fail
  refine C.out.mono ?_
  rintro x w3 ⟨rfl, F3, h3, s3⟩
  have H3 := Lib.hid h3
  clear h3 s3 C
  go_wp2_with fail
  clear dn
  go_loopg [10, 11, 12] n (fun kx s10 s11 s12 wr => ∃ c fr mn : Nat, s12 = .int .i64 c ∧ s11 = .int .i64 fr ∧ s10 = .int .i64 mn ∧ c ≤ n ∧ n - c ≤ kx ∧ mn ≤ c ∧ fr ≤ c + 9 ∧ Aside (∃ q m F cc, c = N * q + m ∧ m < N ∧ JW w wr q0 2 cc F (cS K N q m fr mn) ∧ cc ≤ 2 * c))
  case atStart => exact ⟨0, 0, 0, rfl, rfl, rfl, by omega, by omega, by omega, by omega, 0, 0, F3, 0, by simp, by have := HN9.out; omega, H3.out, by omega⟩
  case round =>
    obtain ⟨c, fr, mn, rfl, rfl, rfl, hc, hkx, hmn, hfr, HI⟩ := hrel
    clear H3
    by_cases hlt : c < n
    · have hltz : (c : Int) < (n : Int) := by omega
      obtain ⟨q, m, F, cc, hcq, hm, h, hcc⟩ := HI.out
      have g0 := h.gr
      obtain ⟨b, off, Q, rfl, hb, hcell⟩ : ∃ (b off : Nat) (Q : Nat → Bool), a = some ⟨b, off, none⟩ ∧ b < w.heap.size ∧ ∀ i, i < n → w.cell? ⟨b, off + i, none⟩ = some (.bool (Q i)) := by
        rcases HB.out with z | z
        · omega
        · exact z
      have kb := Ca.gcell g0 (hcell c hlt)
      obtain ⟨ask, hask⟩ : ∃ x, Q c = x := ⟨_, rfl⟩
      rw [hask] at kb
      have H := Lib.hid h
      have HC := Lib.hid hcq
      have HM := Lib.hid hm
      have HCC := Lib.hid hcc
      have SK := Lib.hid (cS_skip K N q m fr mn hm)
      have NX := Lib.hid (qm_next (q := q) hm)
      rw [← hcq] at SK
      clear h g0 hb hcell hask hcq hm hcc HI
      cases ask
      · have C := Lib.hid (jw_release H.out (t := (c : Int)) (by omega) (by omega) (by have := HCC.out; omega))
        have L2 := Lib.hid (rel_len2 (cS K N q m fr mn) rfl (c : Int))
        clear H
        go_wp2_with fail
        refine C.out.mono ?_
        rintro x w4 ⟨u4, rfl, F4, r4, h4, s4, nf4⟩
        have C := Lib.hid (jw_settle h4 ((c : Int) + 1))
        rw [SK.out] at C
        clear r4 h4 s4 nf4
        go_wp2_with fail
        refine C.out.mono ?_
        rintro x w5 ⟨u5, rfl, F5, r5, h5, s5, nf5⟩
        have H5 := Lib.hid h5
        clear r5 h5 s5 nf5 C
        go_wp2_with fail
        go_roundg (n - (c + 1))
        case measure => omega
        case rel => exact ⟨c + 1, fr, mn, by go_num, rfl, rfl, by omega, Nat.le_refl _, by omega, by omega, _, _, F5, _, by rw [NX.out.1, ← HC.out], NX.out.2, H5.out, c_next HCC.out L2.out⟩
      · have AR := Lib.hid (jw_arrive H.out 2 (by decide))
        by_cases hf : c < fr
        · have dz : decide ((c : Int) ≥ (fr : Int)) = false := decide_eq_false (by omega)
          have CB := cS_busy K N q m fr mn HM.out (by rw [← HC.out]; exact hf)
          rw [CB.1, CB.2] at AR
          clear H CB
          go_wp2_with fail
          refine AR.out.mono ?_
          rintro x w3' ⟨rfl, F3', h3, s3⟩
          have C := Lib.hid (jw_release h3 (t := (c : Int)) (by omega) (by omega) (by have := HCC.out; omega))
          have L2 := Lib.hid (rel_len2 (cS K N q m fr mn) rfl (c : Int))
          clear h3 s3 AR
          go_wp2_with fail
          refine C.out.mono ?_
          rintro x w4 ⟨u4, rfl, F4, r4, h4, s4, nf4⟩
          have C := Lib.hid (jw_settle h4 ((c : Int) + 1))
          rw [SK.out] at C
          clear r4 h4 s4 nf4
          go_wp2_with fail
          refine C.out.mono ?_
          rintro x w5 ⟨u5, rfl, F5, r5, h5, s5, nf5⟩
          have H5 := Lib.hid h5
          clear r5 h5 s5 nf5 C
          go_wp2_with fail
          go_roundg (n - (c + 1))
          case measure => omega
          case rel => exact ⟨c + 1, fr, mn, by go_num, rfl, rfl, by omega, Nat.le_refl _, by omega, by omega, _, _, F5, _, by rw [NX.out.1, ← HC.out], NX.out.2, H5.out, c_next HCC.out L2.out⟩
        · have dz3 : fr ≤ c := by omega
          have dz4 : ((fr : Int) ≤ (c : Int)) = True := eq_true (by omega)
          have CB := cS_ask K N q m fr mn HM.out (by rw [← HC.out]; omega)
          rw [← HC.out] at CB
          have SA := Lib.hid CB.2
          rw [CB.1] at AR
          have AL : (arS (cS K N q m fr mn) 2).length = 2 := by
            unfold arS
            rw [cS_two]
            simp only
            repeat' split
            all_goals first | rfl | (unfold setT; rw [List.length_map]; rfl)
          have L2 := Lib.hid (rel_len2 _ AL (c : Int))
          generalize arS (cS K N q m fr mn) 2 = S2 at *
          clear H CB SK AL
          go_wp2_with fail
          refine AR.out.mono ?_
          rintro x w3' ⟨rfl, F3', h3, s3⟩
          have C := Lib.hid (jw_release h3 (t := (c : Int)) (by omega) (by omega) (by have := HCC.out; omega))
          have hn9 := HN9.out
          clear h3 s3 AR
          go_wp2_with fail
          refine C.out.mono ?_
          rintro x w4 ⟨u4, rfl, F4, r4, h4, s4, nf4⟩
          have C := Lib.hid (jw_settle h4 ((c : Int) + 1))
          rw [SA.out] at C
          clear r4 h4 s4 nf4
          go_wp2_with fail
          refine C.out.mono ?_
          rintro x w5 ⟨u5, rfl, F5, r5, h5, s5, nf5⟩
          have H5 := Lib.hid h5
          clear r5 h5 s5 nf5 C
          go_wp2_with fail
          go_roundg (n - (c + 1))
          case measure => omega
          case rel => exact ⟨c + 1, c + N, mn + 1, by go_num, by go_num, by go_num, by omega, Nat.le_refl _, by omega, by omega, _, _, F5, _, by rw [NX.out.1, ← HC.out], NX.out.2, H5.out, c_next HCC.out L2.out⟩
    · have hltz : ¬ (c : Int) < (n : Int) := by omega
      obtain rfl : n = c := by omega
      obtain ⟨q, m, F, cc, hcq, hm, h, hcc⟩ := HI.out
      have CT := cS_count (q := q) hm
      rw [← hcq] at CT
      have C := Lib.hid (jw_task h 1 (by decide))
      have C2 := Lib.hid (fun W (G : Gr wr W) => jw_task (h.gro G) 2 (by decide))
      have GR := Lib.hid h.gr
      unfold TkQ at C C2
      rw [cS_one] at C
      simp only [cS_two] at C2
      obtain ⟨ct, hct⟩ : ∃ ct : Nat, ct = if m = 0 then q else q + 1 := ⟨_, rfl⟩
      rw [← hct] at CT
      have ect : (c1T K N q m).ct = (ct : Int) := by rw [hct]; unfold c1T; simp only; split <;> simp
      have ect2 : (c2T K N (N * q + m) fr mn).ct = (mn : Int) := rfl
      simp only [Option.getD_some, Option.isSome_some, aggT, ect, ect2] at C C2
      generalize c1T K N q m = X1 at *
      generalize c2T K N (N * q + m) fr mn = X2 at *
      have hn9 := HN9.out
      obtain ⟨sm, hsm⟩ : ∃ sm : Nat, sm = n + N - 1 := ⟨_, rfl⟩
      rw [← hsm] at CT
      have q1 : (n : Int) + (N : Int) - 1 = (sm : Int) := by omega
      have q2 : (sm : Int) / (N : Int) = (ct : Int) := by rw [← CT]; exact (Int.natCast_ediv sm N).symm
      have q3 : (sm : Int).tdiv (N : Int) = (ct : Int) := by rw [Int.tdiv_eq_ediv_of_nonneg (by omega)]; exact q2
      have nz : ¬ (N : Int) = 0 := by omega
      have Q1 := Lib.hid q1
      have Q2 := Lib.hid q2
      have Q3 := Lib.hid q3
      clear h HI hkx hcq hm hcc CT hct ect ect2 hlt hsm q1 q2 q3
      go_wp2_with fail
      refine C.out.mono ?_
      rintro x w4 ⟨rfl, g4⟩
      have G4 := Lib.hid g4
      clear g4 C
      go_upto_region 23 with fail
      obtain ⟨W, hW⟩ : ∃ W, W = w4.alloc (.cells #[.int .i64 X1.id, .int .i64 X1.e, .int .i64 X1.p, .bool X1.sp, .bool X1.le, .bool X1.wa, .bool X1.ac, .int .i64 X1.r, .int .i64 X1.g, .bool X1.dn, .int .i64 ct] 49) := ⟨_, rfl⟩
      obtain ⟨b1, hb1⟩ : ∃ b, b = w4.heap.size := ⟨_, rfl⟩
      have kb1 : W.cell? ⟨b1, 10, none⟩ = some (.int .i64 ct) := by rw [hW, hb1]; simp [go_sem]
      have gW : Gr wr W := by rw [hW]; exact G4.out.alloc _
      rw [← hW, ← hb1]
      have C := Lib.hid (C2.out W gW)
      have GW := Lib.hid gW
      clear hW hb1 gW G4 C2
      go_wp2_with fail
      refine C.out.mono ?_
      rintro x w5 ⟨rfl, g5⟩
      have kc1 := Ca.gcell g5 kb1
      have G5 := Lib.hid g5
      clear g5 C kb1
      go_upto_region 24 with fail
      obtain ⟨W2, hW2⟩ : ∃ W, W = w5.alloc (.cells #[.int .i64 X2.id, .int .i64 X2.e, .int .i64 X2.p, .bool X2.sp, .bool X2.le, .bool X2.wa, .bool X2.ac, .int .i64 X2.r, .int .i64 X2.g, .bool X2.dn, .int .i64 mn] 49) := ⟨_, rfl⟩
      obtain ⟨b2, hb2⟩ : ∃ b, b = w5.heap.size := ⟨_, rfl⟩
      have kb2 : W2.cell? ⟨b2, 10, none⟩ = some (.int .i64 mn) := by rw [hW2, hb2]; simp [go_sem]
      have gW2 : Gr w5 W2 := by rw [hW2]; exact (Ke.refl _ _).alloc _
      have kd1 := Ca.gcell gW2 kc1
      rw [← hW2, ← hb2]
      have GW2 := Lib.hid gW2
      have q2 := Q2.out
      have q3 := Q3.out
      clear hW2 hb2 gW2 kc1
      have q1 := Q1.out
      have nzN : ¬ N = 0 := by omega
      obtain ⟨s1, hs1⟩ : ∃ s1 : Nat, s1 = n + N := ⟨_, rfl⟩
      have f0 : (n : Int) + (N : Int) = (s1 : Int) := by omega
      have f1 : IntKind.i64.wrap (s1 : Int) = (s1 : Int) := by rw [IntKind.wrap_i64]; omega
      have f2 : (s1 : Int) - 1 = (sm : Int) := by omega
      have f3 : IntKind.i64.wrap (sm : Int) = (sm : Int) := by rw [IntKind.wrap_i64]; omega
      have ctb : ct ≤ sm := by have := Int.ediv_le_self (N : Int) (show (0 : Int) ≤ sm by omega); rw [q2] at this; omega
      have f5 : IntKind.i64.wrap (ct : Int) = (ct : Int) := by rw [IntKind.wrap_i64]; omega
      clear hs1 q1 ctb hltz hmn hfr
      go_quiet (fail)
      go_wp2_with fail
      go_ret
      exact ⟨rfl, (((GR.out.trans GW.out).trans G5.out).trans GW2.out).trans ((Ke.refl _ _).drewN _)⟩
end Go.Proofs.YtlpjojegdnconaaDoor
