/- pick: the contract of Best, walked. -/
import Derived.Test.YtkapejgokcpbiaaT7
namespace Go.Proofs.Ytkapejgokcpbiaa
open Go.RowKit Go.Lib Go.Maps
set_option linter.unusedVariables false
set_option maxRecDepth 100000
set_option maxHeartbeats 2000000

theorem bw_start (w : World) (l : Nat → Tk) (c : Int) (ea : Bool) : Bw w ((w.alloc (.cells #[.slice none 0 0, .int .i64 0] 57)).alloc (.map #[] 0)) w.heap.size (w.heap.size + 1) l c ea 0 0 (.map []) := by
  have s1 : (w.alloc (.cells #[.slice none 0 0, .int .i64 0] 57)).heap.size = w.heap.size + 1 := by simp
  have o := World.ownsMap_made (H := Unit) (w.alloc (.cells #[.slice none 0 0, .int .i64 0] 57)) Try.prog 3 unitElem
  rw [s1] at o
  exact {
    gr := ((Ke.refl _ _).alloc _).alloc _
    own := o
    has := fun x => by simp [Maps.has]
    ln := .inl ⟨rfl, ⟨Nat.le_refl _, by simp [go_sem], by simp [go_sem], fun o => by simp⟩⟩
    pb := by omega
    wp := Nat.le_refl _
    wb := by omega }
theorem make58 (n : Int) (w : World) : (Instr.makeMap 58 (some (.int .i64 n))).run Try.prog w = .ok (.map (some w.heap.size)) (w.alloc (.map #[] 0)) := rfl
theorem best_any {w : World} {b0 : Nat} {v : Value} {N : Nat} {l : Nat → Tk} (row : Row w b0 27 11 v N (tc l)) (hN : N ≤ 65536) (hs : ∀ i, i < N → SmT (l i)) (hw : ∀ i, i < N → (Lit.int .i64 (l i).id).wf = true) (c : Int) (hc : SmC c) (n : Int) (ea : Bool) :
    Calls Try.prog 15 #[v, .int .i64 c, .int .i64 n, .bool ea] w fun e w' => IdsP w (bestI l N c n.toNat ea) e w' := by
  have ROW := Lib.hid row
  have HS := Lib.hid hs
  have HW := Lib.hid hw
  have HC := Lib.hid hc
  obtain ⟨xa, ca, hv⟩ : ∃ xa ca, v = .slice xa N ca := by
    rcases row.shape with ⟨rfl, h0⟩ | ⟨g, cap, rfl, _⟩
    · exact ⟨none, 0, by rw [h0]⟩
    · exact ⟨_, _, rfl⟩
  subst hv
  have hmm := make58
  have B0 := Lib.hid (bw_start w l c ea)
  clear row hs hw hc
  go_enter Try.func15, Try.ntmps15
  go_wp2_with fail
  generalize ((w.alloc (.cells #[.slice none 0 0, .int .i64 0] 57)).alloc (.map #[] 0)) = W0 at *
  obtain ⟨pl, hpl⟩ : ∃ pl, pl = w.heap.size := ⟨_, rfl⟩
  obtain ⟨bm, hbm⟩ : ∃ bm, bm = w.heap.size + 1 := ⟨_, rfl⟩
  rw [← hbm, ← hpl] at B0
  rw [← hbm, ← hpl]
  clear hmm hpl hbm
  go_loopg [20] N (fun kx s20 wr => ∃ k : Nat, s20 = .int .i64 k ∧ k ≤ N ∧ N - k ≤ kx ∧ Aside (∃ D, Bw w wr pl bm l c ea k k D))
  case atStart => exact ⟨0, rfl, by omega, by omega, ⟨_, B0.out⟩⟩
  case round =>
    obtain ⟨k, rfl, hk, hkx, HI⟩ := hrel
    obtain ⟨D, bw⟩ := HI.out
    clear B0 HI
    by_cases hlt : k < N
    · have hltz : (k : Int) < (N : Int) := by omega
      have row := Row.keep ROW.out (w' := wr) (fun g hg => bw.gr.block g (Row.lt ROW.out hg).2 (fun q => q))
      obtain ⟨g, cap, hv, _, hgl, _⟩ := Row.form row (by omega)
      cases hv
      have kc := fun o (ho : o < 11) => (row.cell (k * 11 + o) (by omega)).trans (congrArg some (tc_at l k o ho))
      have q0 := kc 0 (by omega)
      have q1 := kc 1 (by omega)
      have q2 := kc 2 (by omega)
      have q3 := kc 3 (by omega)
      have q4 := kc 4 (by omega)
      have q5 := kc 5 (by omega)
      have q6 := kc 6 (by omega)
      have q7 := kc 7 (by omega)
      have q8 := kc 8 (by omega)
      have q9 := kc 9 (by omega)
      have q10 := kc 10 (by omega)
      simp only [fld, Nat.add_zero] at q0 q1 q2 q3 q4 q5 q6 q7 q8 q9 q10
      have hx := HW.out k hlt
      have hsm := HS.out k hlt
      have BW := Lib.hid bw
      obtain ⟨t, ht⟩ : ∃ t, t = l k := ⟨_, rfl⟩
      rw [← ht] at q0 q1 q2 q3 q4 q5 q6 q7 q8 q9 q10 hx hsm
      have HT := Lib.hid ht
      obtain ⟨tid, te, tp, tsp, tle, twa, tac, tr, tg, tdn, tct⟩ := t
      simp only at q0 q1 q2 q3 q4 q5 q6 q7 q8 q9 q10 hx
      have b1 := bw.gr' ((Ke.refl (fun _ => False) wr).alloc (.cells #[.int .i64 tid, .int .i64 te, .int .i64 tp, .bool tsp, .bool tle, .bool twa, .bool tac, .int .i64 tr, .int .i64 tg, .bool tdn, .int .i64 tct] 27))
      have b2 := b1.gr' ((Ke.refl (fun _ => False) _).alloc (.cells #[] 59))
      have OWN := Lib.hid b1.own
      have OW2 := Lib.hid b2.own
      have B2 := Lib.hid b2
      have hhas : has D (.int .i64 tid) = twB l k := by
        rw [Bool.eq_iff_iff, bw.has, twB_iff]
        rw [← HT.out]
      cases htw : twB l k
      · rw [htw] at hhas
        have HH := Lib.hid hhas
        have HTW := Lib.hid htw
        have hsz : k < maxLen := by unfold maxLen; omega
        have hne : wr.heap.size ≠ bm := fun e => by have := bw.own.lt; omega
        have HNE := Lib.hid hne
        clear kc row bw ht b1 b2 hhas htw hne
        go_wp2_with (first
          | (at_lookup; refine wpList_lookup_own_unit _ rfl _ _ 58 rfl 3 59 law3 Try.underlying58 (zero59 _) bm k D rfl OWN.out _ _ rfl (keyOf_int_mk Try.underlying3 hx) ?_; rw [HH.out])
          | (at_mapUpdate; refine wpList_mapUpdate_in _ rfl _ _ _ 58 rfl 3 59 law3 Try.underlying58 unitElem bm k D rfl OW2.out hsz _ _ _ rfl rfl (keyOf_int_mk Try.underlying3 hx) _ [] unitElem_mk ?_))
        intro w3 own3 hturn
        have KT : Ke (fun j => j = bm) _ w3 := (Ke.refl _ _).grown hturn.grown (fun j hj => .inl (by cases hj; rfl))
        have ec := fun o v (h : World.cell? _ ⟨wr.heap.size, o, none⟩ = some v) => (KT.cell (p := ⟨wr.heap.size, o, none⟩) (by simp; omega) HNE.out).trans h
        have e0 := ec 0 (.int .i64 tid) (by simp [go_sem])
        have e1 := ec 1 (.int .i64 te) (by simp [go_sem])
        have e2 := ec 2 (.int .i64 tp) (by simp [go_sem])
        have e3 := ec 3 (.bool tsp) (by simp [go_sem])
        have e4 := ec 4 (.bool tle) (by simp [go_sem])
        have e5 := ec 5 (.bool twa) (by simp [go_sem])
        have e6 := ec 6 (.bool tac) (by simp [go_sem])
        have e7 := ec 7 (.int .i64 tr) (by simp [go_sem])
        have e8 := ec 8 (.int .i64 tg) (by simp [go_sem])
        have e9 := ec 9 (.bool tdn) (by simp [go_sem])
        have e10 := ec 10 (.int .i64 tct) (by simp [go_sem])
        have hid : tid = (l k).id := by rw [← HT.out]
        have b3 := B2.out.map (W' := w3) (by rw [← hid]; exact own3) hturn (by rw [← hid]; exact hx)
        have B3 := Lib.hid b3
        have hct : canB ⟨tid, te, tp, tsp, tle, twa, tac, tr, tg, tdn, tct⟩ c ea = cndB l c ea k := by
          unfold cndB; rw [HTW.out, HT.out]; simp
        have CAN := Lib.hid (fun W => can_any ⟨tid, te, tp, tsp, tle, twa, tac, tr, tg, tdn, tct⟩ c ea W hsm HC.out)
        rw [hct] at CAN
        clear ec KT own3 hturn OWN OW2 B2 hid b3 hct HNE q0 q1 q2 q3 q4 q5 q6 q7 q8 q9 q10 HH HTW hsz
        cases hcn : cndB l c ea k
        · rw [hcn] at CAN
          have FIN := Lib.hid (B3.out.not hcn)
          clear hcn
          go_wp2_with fail
          refine (CAN.out _).mono ?_
          rintro x w4 ⟨rfl, g4⟩
          have F4 := Lib.hid (FIN.out.gr' g4)
          clear g4 FIN CAN e0 e1 e2 e3 e4 e5 e6 e7 e8 e9 e10 B3
          go_wp2_with fail
          go_roundg (N - (k + 1))
          case measure => omega
          case rel => exact ⟨k + 1, by go_num, by omega, Nat.le_refl _, ⟨_, F4.out⟩⟩
        · rw [hcn] at CAN
          have HCN := Lib.hid hcn
          clear hcn
          have RNK := Lib.hid (fun W => rank_any ⟨tid, te, tp, tsp, tle, twa, tac, tr, tg, tdn, tct⟩ W hsm.g)
          rw [HT.out] at RNK
          go_wp2_with fail
          refine (CAN.out _).mono ?_
          rintro x w4 ⟨rfl, g4⟩
          replace e0 := gcell g4 e0
          replace e1 := gcell g4 e1
          replace e2 := gcell g4 e2
          replace e3 := gcell g4 e3
          replace e4 := gcell g4 e4
          replace e5 := gcell g4 e5
          replace e6 := gcell g4 e6
          replace e7 := gcell g4 e7
          replace e8 := gcell g4 e8
          replace e9 := gcell g4 e9
          replace e10 := gcell g4 e10
          have F4 := Lib.hid (B3.out.gr' g4)
          clear g4 CAN B3
          go_wp2_with fail
          rw [← HT.out] at RNK
          refine (RNK.out _).mono ?_
          rintro x w5 ⟨rfl, g5⟩
          have P := Lib.hid (put_bw (F4.out.gr' g5) HCN.out (by omega))
          rw [← HT.out] at P
          clear g5 F4 RNK e0 e1 e2 e3 e4 e5 e6 e7 e8 e9 e10
          go_wp2_with fail
          refine P.out.mono ?_
          rintro x w6 ⟨rfl, b6⟩
          have F6 := Lib.hid b6
          clear b6 P
          go_wp2_with fail
          go_roundg (N - (k + 1))
          case measure => omega
          case rel => exact ⟨k + 1, by go_num, by omega, Nat.le_refl _, ⟨_, F6.out⟩⟩
      · rw [htw] at hhas
        have HH := Lib.hid hhas
        have FIN := Lib.hid ((bw.twice htw).gr' (((Ke.refl (fun _ => False) wr).alloc (.cells #[.int .i64 tid, .int .i64 te, .int .i64 tp, .bool tsp, .bool tle, .bool twa, .bool tac, .int .i64 tr, .int .i64 tg, .bool tdn, .int .i64 tct] 27)).alloc (.cells #[] 59)))
        clear kc row bw ht b1 b2 hhas htw OW2 B2
        go_wp2_with (at_lookup; refine wpList_lookup_own_unit _ rfl _ _ 58 rfl 3 59 law3 Try.underlying58 (zero59 _) bm k D rfl OWN.out _ _ rfl (keyOf_int_mk Try.underlying3 hx) ?_; rw [HH.out])
        go_roundg (N - (k + 1))
        case measure => omega
        case rel => exact ⟨k + 1, by go_num, by omega, Nat.le_refl _, ⟨_, FIN.out⟩⟩
    · have hltz : ¬ (k : Int) < (N : Int) := by omega
      obtain rfl : N = k := by omega
      have C := Lib.hid (first_bw bw (by omega) n)
      clear bw
      go_wp2_with fail
      refine C.out.mono ?_
      rintro x w2 ⟨u, rfl, h1, h2⟩
      have H1 := Lib.hid h1
      have H2 := Lib.hid h2
      clear h1 h2 C
      go_wp2
      go_ret
      exact ⟨u, rfl, H1.out, H2.out⟩
end Go.Proofs.Ytkapejgokcpbiaa
