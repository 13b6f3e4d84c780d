/- MeterTurns walked. -/
import Derived.Test.YthglpaijeijbhaaE2
import Derived.Deep.DeepCutAuto
import Derived.Deep.CutBlock
import Derived.Deep.RegionLaw
namespace Go.Proofs.Ythglpaijeijbhaa
open Go.RowKit Go.Lib
set_option linter.unusedVariables false

set_option maxRecDepth 100000 in
set_option maxHeartbeats 2000000 in
theorem turns_big (a : Option Addr) (n c0 : Nat) (w : World) (h : 200 < n) : Calls Try.prog 6 #[.slice a n c0] w fun e w' => e = .returned (.bool true) ∧ Gr w w' := by
  have AW := Lib.hid (awake_any w)
  have d1 : decide ((n : Int) > 200) = true := by simp; omega
  have d2 : decide (200 < n) = true := by simp; omega
  go_enter Try.func6, Try.ntmps6
  go_wp2_with fail
  refine AW.out.mono ?_
  rintro e w1 ⟨rfl, g1⟩
  have CN := Lib.hid (mw_new g1)
  clear g1 AW
  go_wp2_with fail
  refine CN.out.mono ?_
  rintro e w2 ⟨p, rfl, -, -, h2⟩
  have H2 := Lib.hid h2.gr
  clear h2 CN
  go_wp2
  go_ret
  exact ⟨rfl, H2.out⟩

set_option maxRecDepth 100000 in
set_option maxHeartbeats 4000000 in
theorem turns_walk (a : Option Addr) (n c0 : Nat) (q : Nat → Pk .i16) (w : World) (hn : n ≤ 200) (hq : PrsAt w a n q) :
    Calls Try.prog 6 #[.slice a n c0] w fun e w' => e = .returned (.bool true) ∧ Gr w w' := by
  have AW := Lib.hid (awake_any w)
  have HQ := Lib.hid hq
  have d1 : decide ((n : Int) > 200) = false := by simp; omega
  have d2 : decide (200 < n) = false := by simp; omega
  clear hq
  go_enter Try.func6, Try.ntmps6
  go_wp2_with fail
  refine AW.out.mono ?_
  rintro e w1 ⟨rfl, g1⟩
  have CN := Lib.hid (mw_new g1)
  clear g1 AW
  go_wp2_with fail
  refine CN.out.mono ?_
  rintro e w2 ⟨p, rfl, -, -, h2⟩
  have H2 := Lib.hid h2
  clear h2 CN
  go_wp2_with fail
  go_loopg [4] n (fun kx s4 wr => ∃ i : Nat, s4 = .int .i64 i ∧ i ≤ n ∧ n - i ≤ kx ∧ Aside (MW w wr p (S q i)))
  case atStart => exact ⟨0, rfl, by omega, by omega, H2.out⟩
  case round =>
    clear H2
    obtain ⟨i, rfl, hi, hk, D⟩ := hrel
    by_cases hlt : i < n
    · have dl : decide ((i : Int) < (n : Int)) = true := by simp; omega
      have dl2 : decide (i < n) = true := by simp; omega
      have hltz : (i : Int) < (n : Int) := by omega
      have b0 : (0 : Int) ≤ (i : Int) ∧ (i : Int) < (n : Int) := by omega
      obtain ⟨b0, o0, rfl, hb0, hq⟩ := HQ.out (by omega)
      obtain ⟨qa, qb⟩ := hq i hlt
      have wa := wf_i16 (q i).ha
      have wb := wf_i16 (q i).hb
      have BC : Hid (∀ W : World, Gr w W → W.cell? ⟨b0, o0 + i * 2, none⟩ = some (.int .i16 (q i).a) ∧ W.cell? ⟨b0, o0 + i * 2 + 1, none⟩ = some (.int .i16 (q i).b)) := fun W bw => ⟨(bw.cell (p := ⟨b0, o0 + i * 2, none⟩) hb0 (fun e => e)).trans qa, (bw.cell (p := ⟨b0, o0 + i * 2 + 1, none⟩) hb0 (fun e => e)).trans qb⟩
      have kc := BC.out wr.drew (D.out.gr.drew)
      have PA := Lib.hid (turn_add (D.out.gro (Ke.refl _ _).drew) (by omega))
      obtain ⟨i1, i2, i3⟩ := ixF_is (q i).a
      have br := ixF_lt (q i).a
      generalize ixF (q i).a = r at *
      generalize (q i).a = xa at *
      generalize (q i).b = xb at *
      obtain ⟨t, ht⟩ : ∃ t, xa.tmod 5 = t := ⟨_, rfl⟩
      rw [ht] at i1 i2 i3
      have w1' : IntKind.i64.wrap xa = xa := by rw [IntKind.wrap_i64]; omega
      have w2' : IntKind.i64.wrap xb = xb := by rw [IntKind.wrap_i64]; omega
      have w3' : IntKind.i64.wrap (t + 5) = t + 5 := by rw [IntKind.wrap_i64]; omega
      have w4' : IntKind.i64.wrap t = t := by rw [IntKind.wrap_i64]; omega
      clear qa qb hq D
      go_upto_region 9 with fail
      go_region_held3 (fun w' => w'.cell? ⟨b0, o0 + i * 2, none⟩ = some (.int .i16 xa) ∧ w'.cell? ⟨b0, o0 + i * 2 + 1, none⟩ = some (.int .i16 xb))
        (with_reducible first | exact kc | exact kd)
        (first | (go_at_call 10; refine (PA.out _ _ (by first | rfl | exact i1) (by first | rfl | exact w2')).mono ?_; rintro e w4 ⟨⟨v, rfl⟩, -, t4⟩; have kd := BC.out _ t4.gr; have T4 := Lib.hid t4; clear t4))
      go_wp2_with fail
      go_roundg (n - (i + 1))
      case measure => omega
      case rel => exact ⟨i + 1, by go_num, by omega, by omega, T4.out⟩
    · obtain rfl : n = i := by omega
      have d0 : decide ((n : Int) < (n : Int)) = false := by simp
      have C1 := Lib.hid (mw_all D.out)
      clear D
      go_wp2_with fail
      refine C1.out.mono ?_
      rintro e w4 ⟨rfl, -, h4⟩
      have R4 : Hid ((w4.alloc (valO (S q n))).rowIs w4.heap.size 26 5 (fun j => .int .i64 (S q n j))) := Lib.hid (val_row _ w4)
      have G4 := Lib.hid (h4.gro ((Ke.refl _ w4).alloc (valO (S q n))))
      have NE : Hid (p ≠ w4.heap.size) := Lib.hid (by have := h4.m.lt; omega)
      clear C1 h4
      go_wp2_with fail
      generalize w4.heap.size = A at *
      generalize w4.alloc (valO (S q n)) = w5 at *
      rw [← T_zero q n] at G4
      go_loopg [6] n (fun kx s6 wr => ∃ i : Nat, s6 = .int .i64 i ∧ i ≤ n ∧ n - i ≤ kx ∧ Aside (MW w wr p (T q n i) ∧ wr.rowIs A 26 5 (fun j => .int .i64 (S q n j))))
      case atStart => exact ⟨0, rfl, by omega, by omega, G4.out, R4.out⟩
      case round =>
        clear R4 G4
        obtain ⟨i, rfl, hi, hk, D⟩ := hrel
        by_cases hlt : i < n
        · have dl : decide ((i : Int) < (n : Int)) = true := by simp; omega
          have dl2 : decide (i < n) = true := by simp; omega
          have hltz : (i : Int) < (n : Int) := by omega
          have b0 : (0 : Int) ≤ (i : Int) ∧ (i : Int) < (n : Int) := by omega
          obtain ⟨b0, o0, rfl, hb0, hq⟩ := HQ.out (by omega)
          obtain ⟨qa, qb⟩ := hq i hlt
          have wa := wf_i16 (q i).ha
          have wb := wf_i16 (q i).hb
          have BC : Hid (∀ W : World, Gr w W → W.cell? ⟨b0, o0 + i * 2, none⟩ = some (.int .i16 (q i).a) ∧ W.cell? ⟨b0, o0 + i * 2 + 1, none⟩ = some (.int .i16 (q i).b)) := fun W bw => ⟨(bw.cell (p := ⟨b0, o0 + i * 2, none⟩) hb0 (fun e => e)).trans qa, (bw.cell (p := ⟨b0, o0 + i * 2 + 1, none⟩) hb0 (fun e => e)).trans qb⟩
          have kc := BC.out wr.drew (D.out.1.gr.drew)
          have PA := Lib.hid (turn_sub (D.out.1.gro (Ke.refl _ _).drew) (by omega) hn)
          have RW : Hid (∀ W, Ke (fun j => j = p) wr.drew W → W.rowIs A 26 5 (fun j => .int .i64 (S q n j))) := Lib.hid (fun W k => by
            have r : wr.drew.rowIs A 26 5 (fun j => .int .i64 (S q n j)) := D.out.2
            exact r.of_block (k.block A r.lt (fun e => NE.out e.symm)))
          obtain ⟨i1, i2, i3⟩ := ixF_is (q i).a
          have br := ixF_lt (q i).a
          generalize ixF (q i).a = r at *
          generalize (q i).a = xa at *
          generalize (q i).b = xb at *
          obtain ⟨t, ht⟩ : ∃ t, xa.tmod 5 = t := ⟨_, rfl⟩
          rw [ht] at i1 i2 i3
          have w1' : IntKind.i64.wrap xa = xa := by rw [IntKind.wrap_i64]; omega
          have w2' : IntKind.i64.wrap xb = xb := by rw [IntKind.wrap_i64]; omega
          have w3' : IntKind.i64.wrap (t + 5) = t + 5 := by rw [IntKind.wrap_i64]; omega
          have w4' : IntKind.i64.wrap t = t := by rw [IntKind.wrap_i64]; omega
          have w5' : IntKind.i64.wrap (-xb) = -xb := by rw [IntKind.wrap_i64]; omega
          clear qa qb hq D
          go_upto_region 14 with fail
          go_region_held3 (fun w' => w'.cell? ⟨b0, o0 + i * 2, none⟩ = some (.int .i16 xa) ∧ w'.cell? ⟨b0, o0 + i * 2 + 1, none⟩ = some (.int .i16 xb))
            (with_reducible first | exact kc | exact kd)
            (first | (go_at_call 10; refine (PA.out _ _ (by first | rfl | exact i1) (by first | rfl | exact w5')).mono ?_; rintro e w4 ⟨⟨v, rfl⟩, k4, t4⟩; have kd := BC.out _ t4.gr; have T4 := Lib.hid t4; have R4 := Lib.hid (RW.out _ k4); clear t4 k4))
          go_wp2_with fail
          go_roundg (n - (i + 1))
          case measure => omega
          case rel => exact ⟨i + 1, by go_num, by omega, by omega, T4.out, R4.out⟩
        · obtain rfl : n = i := by omega
          have d0 : decide ((n : Int) < (n : Int)) = false := by simp
          have HD := Lib.hid D.out
          clear D
          go_wp2_with fail
          go_loopg [7, 8] n (fun kx s7 s8 wr => ∃ i : Nat, s8 = .int .i64 i ∧ s7 = .int .i64 (V q i) ∧ i ≤ n ∧ n - i ≤ kx ∧ Aside (MW w wr p (T q n n) ∧ wr.rowIs A 26 5 (fun j => .int .i64 (S q n j))))
          case atStart => exact ⟨0, rfl, rfl, by omega, by omega, HD.out⟩
          case round =>
            clear HD
            obtain ⟨i, rfl, rfl, hi, hk, D⟩ := hrel
            by_cases hlt : i < n
            · have dl : decide ((i : Int) < (n : Int)) = true := by simp; omega
              have dl2 : decide (i < n) = true := by simp; omega
              have hltz : (i : Int) < (n : Int) := by omega
              have b0 : (0 : Int) ≤ (i : Int) ∧ (i : Int) < (n : Int) := by omega
              obtain ⟨b0, o0, rfl, hb0, hq⟩ := HQ.out (by omega)
              obtain ⟨qa, qb⟩ := hq i hlt
              have wb := wf_i16 (q i).hb
              have qc : wr.cell? ⟨b0, o0 + i * 2 + 1, none⟩ = some (.int .i16 (q i).b) := (D.out.1.gr.cell (p := ⟨b0, o0 + i * 2 + 1, none⟩) hb0 (fun e => e)).trans qb
              have vb := V_bd q i
              obtain ⟨vv, hv⟩ : ∃ vv, V q i = vv := ⟨_, rfl⟩
              have VS : Hid (V q (i + 1) = vv + (q i).b) := Lib.hid (by rw [← hv]; rfl)
              rw [hv] at vb ⊢
              clear qa qb hq hv
              generalize (q i).b = xb at *
              have w2' : wrap64 xb = xb := by unfold wrap64; omega
              have w3' : wrap64 (vv + xb) = vv + xb := by unfold wrap64; omega
              have HD := Lib.hid D.out
              clear D
              go_wp2_with fail
              go_roundg (n - (i + 1))
              case measure => omega
              case rel => exact ⟨i + 1, by go_num, by rw [VS.out], by omega, by omega, HD.out⟩
            · obtain rfl : n = i := by omega
              have d0 : decide ((n : Int) < (n : Int)) = false := by simp
              have HD := Lib.hid D.out
              clear D
              have PB : Hid (∀ i, i ≤ 5 → -200000000 ≤ psum (S q n) i ∧ psum (S q n) i ≤ 200000000) := Lib.hid (fun i hi => by
                have := psum_bd (c := S q n) (B := 6600000) (fun j => by have := S_bd q n j; omega) (by omega) i hi
                omega)
              have PS := Lib.hid (psum_S q n)
              generalize V q n = vn at *
              go_wp2_with fail
              go_loopg [9, 10] 5 (fun kx s9 s10 wr => ∃ i : Nat, s10 = .int .i64 i ∧ s9 = .int .i64 (psum (S q n) i) ∧ i ≤ 5 ∧ 5 - i ≤ kx ∧ Aside (MW w wr p (T q n n) ∧ wr.rowIs A 26 5 (fun j => .int .i64 (S q n j))))
              case atStart => exact ⟨0, rfl, rfl, by omega, by omega, HD.out⟩
              case round =>
                clear HD
                obtain ⟨i, rfl, rfl, hi, hk, D⟩ := hrel
                by_cases hlt : i < 5
                · have dl : decide ((i : Int) < (5 : Int)) = true := by simp; omega
                  have dl2 : decide (i < 5) = true := by simp; omega
                  have b0 : (0 : Int) ≤ (i : Int) ∧ (i : Int) < (5 : Int) := by omega
                  have HD := Lib.hid D.out
                  have cv := HD.out.2.cell hlt
                  have ws : wrap64 (psum (S q n) i + S q n i) = psum (S q n) (i + 1) := by
                    have := PB.out (i + 1) (by omega)
                    show wrap64 (psum (S q n) (i + 1)) = _
                    unfold wrap64
                    omega
                  clear D
                  go_wp2_with fail
                  go_roundg (5 - (i + 1))
                  case measure => omega
                  case rel => exact ⟨i + 1, by go_num, by first | rfl | exact congrArg (Value.int .i64) ws, by omega, by omega, HD.out⟩
                · obtain rfl : i = 5 := by omega
                  have C1 := Lib.hid (mw_all5 D.out.1 (T_end q n 0) (T_end q n 1) (T_end q n 2) (T_end q n 3) (T_end q n 4))
                  clear D
                  rw [PS.out]
                  have EQ := eq5
                  go_wp2_with fail
                  refine C1.out.mono ?_
                  rintro e w4 ⟨rfl, -, h4⟩
                  have G4 := Lib.hid h4.gr
                  clear h4 C1
                  go_wp2
                  go_ret
                  exact ⟨rfl, G4.out⟩
end Go.Proofs.Ythglpaijeijbhaa
