/- RingTurns walked. -/
import Derived.Test.YtgnfmmoanmhgpaaC1
namespace Go.Proofs.Ytgnfmmoanmhgpaa
open Go.RowKit Go.Lib
set_option linter.unusedVariables false

/-- What is put. -/
def tuE (s : Nat) : En := ⟨s, s, ⟨0, 0, (s : Int) * 3, 0, 0, 0, 0, false⟩⟩

set_option maxRecDepth 100000 in
set_option maxHeartbeats 8000000 in
theorem turns_walk (n many : Int) (hn : 0 ≤ n ∧ n ≤ 255) (hm : 0 ≤ many ∧ many ≤ 65535) (w : World) :
    Calls Try.prog 4 #[.int .u8 n, .int .u16 many] w fun e w' => e = .returned (.bool true) ∧ Gr w w' := by
  have AW := Lib.hid (awake_any w)
  obtain ⟨r0, hr0⟩ : ∃ r, n % 40 = r := ⟨_, rfl⟩
  obtain ⟨r, hr⟩ : ∃ r, many % 200 = r := ⟨_, rfl⟩
  have b0 : 0 ≤ r0 ∧ r0 ≤ 39 := by omega
  have b1 : 0 ≤ r ∧ r ≤ 199 := by omega
  obtain ⟨k, rfl⟩ := Int.eq_ofNat_of_zero_le b0.1
  obtain ⟨T, rfl⟩ := Int.eq_ofNat_of_zero_le b1.1
  have hr0' : n.tmod 40 = k := by rw [Int.tmod_eq_emod_of_nonneg hn.1]; exact hr0
  have hr' : many.tmod 200 = T := by rw [Int.tmod_eq_emod_of_nonneg hm.1]; exact hr
  have w1' : wrap64 n = n := by unfold wrap64; omega
  have w2' : wrap64 many = many := by unfold wrap64; omega
  have bT : T ≤ 199 := by omega
  have bk : k ≤ 39 := by omega
  have CNH := Lib.hid (fun w1 (g : Gr w w1) => rw_new g (k : Int) k (by omega) tuE)
  clear hn hm b0 b1
  go_enter Try.func4, Try.ntmps4
  go_wp2_with fail
  refine AW.out.mono ?_
  rintro e w1 ⟨rfl, g1⟩
  have CN := Lib.hid (CNH.out w1 g1)
  clear g1 AW CNH
  go_wp2_with fail
  refine CN.out.mono ?_
  rintro e w2 ⟨p, rfl, h2⟩
  have H2 := Lib.hid h2
  clear h2 CN
  go_wp2_with fail
  clear hr0 hr0' w1'
  go_loopg [7, 8, 9, 10, 11, 12, 13] T (fun kx s7 s8 s9 s10 s11 s12 s13 wr => ∃ i : Nat, s7 = .int .i64 (i : Int) ∧ i ≤ T ∧ T - i ≤ kx ∧ Aside (RW w wr p k i tuE))
  case atStart => exact ⟨0, rfl, by omega, by omega, H2.out⟩
  case round =>
    clear H2
    obtain ⟨i, rfl, hi, hix, D⟩ := hrel
    by_cases hlt : i < T
    · have d0 : decide ((i : Int) < (T : Int)) = true := by simp; omega
      have d1' : decide (i < T) = true := by simp; omega
      obtain ⟨d, hd⟩ : ∃ d, (i : Int) - (k : Int) = d := ⟨_, rfl⟩
      obtain ⟨d1, hd1⟩ : ∃ d1, d + 1 = d1 := ⟨_, rfl⟩
      obtain ⟨q, hq⟩ : ∃ q, (i : Int) * 3 = q := ⟨_, rfl⟩
      have wd : wrap64 d = d := by unfold wrap64; omega
      have wd1 : wrap64 d1 = d1 := by unfold wrap64; omega
      have wq : wrap64 q = q := by unfold wrap64; omega
      have C := Lib.hid (rw_put D.out (by omega) (c := (i : Int)) (x := ⟨0, 0, q, 0, 0, 0, 0, false⟩) (by unfold tuE; rw [hq]) (v := .agg #[.int .i64 0, .int .i64 0, .int .i64 q, .int .i64 0, .int .i64 0, .int .i64 0, .int .i64 0, .bool false]) rfl)
      clear D
      go_wp2_with fail
      refine C.out.mono ?_
      rintro e w3 ⟨rfl, h3⟩
      have H3 := Lib.hid h3
      clear h3 C
      by_cases hk0 : k = 0
      ·
        have dk : decide ((0 : Int) < (k : Int)) = false := by simp; omega
        have dk2 : decide ((k : Int) > (0 : Int)) = false := by simp; omega
        have dk3 : decide (0 < k) = false := by simp; omega
        have C1 := Lib.hid (fun (W : World) (g : Gr w3 W) => rw_out (H3.out.gro g) (by omega) (i : Int) (by omega))
        have C2 := Lib.hid (fun (W : World) (g : Gr w3 W) => rw_out (H3.out.gro g) (by omega) d (by omega))
        have C3 := Lib.hid (fun (W : World) (g : Gr w3 W) => rw_out (H3.out.gro g) (by omega) d1 (by omega))
        clear hk0
        go_wp2_with fail
        refine (C1.out w3 (Ke.refl _ w3)).mono ?_
        rintro e w4 ⟨rfl, g4⟩
        have g4 : Gr w3 (w4.alloc (enO en0)) := g4.alloc _
        have R4 := en_row en0 w4
        have Ca1 : (w4.alloc (enO en0)).cell? ⟨w4.heap.size, 1, none⟩ = some (.int .i64 0) := R4.cell (i := 1) (by omega)
        have Ca4 : (w4.alloc (enO en0)).cell? ⟨w4.heap.size, 4, none⟩ = some (.int .i64 0) := R4.cell (i := 4) (by omega)
        have HG4 := Lib.hid g4
        have D2 := Lib.hid (C2.out _ g4)
        clear g4 R4
        go_wp2_with fail
        generalize w4.alloc (enO en0) = W4 at *
        generalize w4.heap.size = Ba at *
        refine D2.out.mono ?_
        rintro e w5 ⟨rfl, g5⟩
        have g5 : Gr W4 (w5.alloc (enO en0)) := g5.alloc _
        have HG5 : Hid (Gr w3 (w5.alloc (enO en0))) := Lib.hid (HG4.out.trans g5)
        have Cb1 := kcell g5 Ca1
        have Cb4 := kcell g5 Ca4
        have D3 := Lib.hid (C3.out _ HG5.out)
        clear D2 g5 Ca1 Ca4 HG4
        go_wp2_with fail
        generalize w5.alloc (enO en0) = W5 at *
        generalize w5.heap.size = Bb at *
        refine D3.out.mono ?_
        rintro e w6 ⟨rfl, g6⟩
        have g6 : Gr W5 (w6.alloc (enO en0)) := g6.alloc _
        have HG6 : Hid (RW w (w6.alloc (enO en0)) p k (i + 1) tuE) := Lib.hid (H3.out.gro (HG5.out.trans g6))
        have Cc1 := kcell g6 Cb1
        have Cc4 := kcell g6 Cb4
        have Cd1 : (w6.alloc (enO en0)).cell? ⟨w6.heap.size, 1, none⟩ = some (.int .i64 0) := (en_row en0 w6).cell (i := 1) (by omega)
        clear D3 g6 Cb1 Cb4 HG5 H3
        go_wp2_with fail
        go_roundg (T - (i + 1))
        case measure => omega
        case rel => exact ⟨i + 1, by go_num, by omega, by omega, HG6.out⟩
      by_cases hk1 : k ≤ i + 1
      ·
        have dk : decide ((0 : Int) < (k : Int)) = true := by simp; omega
        have dk2 : decide ((k : Int) > (0 : Int)) = true := by simp; omega
        have dk3 : decide (0 < k) = true := by simp; omega
        have dz : decide (d1 ≥ 0) = true := by simp; omega
        have dz2 : decide (0 ≤ d1) = true := by simp; omega
        obtain ⟨s, hs⟩ : ∃ s, i + 1 - k = s := ⟨_, rfl⟩
        have hs1 : d1 = (s : Int) := by omega
        have e1 : (tuE i).c = (i : Int) := rfl
        have e2 : (tuE i).p.i = q := hq
        have e3 : (tuE s).c = d1 := hs1.symm
        obtain ⟨x1, hx1⟩ : ∃ x, tuE i = x := ⟨_, rfl⟩
        obtain ⟨x3, hx3⟩ : ∃ x, tuE s = x := ⟨_, rfl⟩
        rw [hx1] at e1 e2
        have E1 := Lib.hid e1
        have E2 := Lib.hid e2
        clear e1 e2
        rw [hx3] at e3
        have E3 := Lib.hid e3
        clear e3
        have C1 := Lib.hid (fun (W : World) (g : Gr w3 W) => (by rw [← hx1]; exact rw_in (H3.out.gro g) (by omega) i (by omega) (by omega) rfl : Calls Try.prog 10 #[.pointer (some ⟨p, 0, none⟩), .int .i64 (i : Int)] W fun e w' => e = .returned (.tuple #[enV x1, .bool true]) ∧ Gr W w'))
        have C2 := Lib.hid (fun (W : World) (g : Gr w3 W) => rw_out (H3.out.gro g) (by omega) d (by omega))
        have C3 := Lib.hid (fun (W : World) (g : Gr w3 W) => (by rw [← hx3]; exact rw_in (H3.out.gro g) (by omega) s (by omega) (by omega) hs1 : Calls Try.prog 10 #[.pointer (some ⟨p, 0, none⟩), .int .i64 d1] W fun e w' => e = .returned (.tuple #[enV x3, .bool true]) ∧ Gr W w'))
        clear hs hs1 hx1 hx3 hk0 hk1
        go_wp2_with fail
        refine (C1.out w3 (Ke.refl _ w3)).mono ?_
        rintro e w4 ⟨rfl, g4⟩
        have g4 : Gr w3 (w4.alloc (enO x1)) := g4.alloc _
        have R4 := en_row x1 w4
        have Ca1 : (w4.alloc (enO x1)).cell? ⟨w4.heap.size, 1, none⟩ = some (.int .i64 x1.c) := R4.cell (i := 1) (by omega)
        have Ca4 : (w4.alloc (enO x1)).cell? ⟨w4.heap.size, 4, none⟩ = some (.int .i64 x1.p.i) := R4.cell (i := 4) (by omega)
        have HG4 := Lib.hid g4
        have D2 := Lib.hid (C2.out _ g4)
        clear g4 R4
        go_wp2_with fail
        generalize w4.alloc (enO x1) = W4 at *
        generalize w4.heap.size = Ba at *
        rw [E1.out] at Ca1
        rw [E2.out] at Ca4
        clear E1 E2
        refine D2.out.mono ?_
        rintro e w5 ⟨rfl, g5⟩
        have g5 : Gr W4 (w5.alloc (enO en0)) := g5.alloc _
        have HG5 : Hid (Gr w3 (w5.alloc (enO en0))) := Lib.hid (HG4.out.trans g5)
        have Cb1 := kcell g5 Ca1
        have Cb4 := kcell g5 Ca4
        have D3 := Lib.hid (C3.out _ HG5.out)
        clear D2 g5 Ca1 Ca4 HG4
        go_wp2_with fail
        generalize w5.alloc (enO en0) = W5 at *
        generalize w5.heap.size = Bb at *
        refine D3.out.mono ?_
        rintro e w6 ⟨rfl, g6⟩
        have g6 : Gr W5 (w6.alloc (enO x3)) := g6.alloc _
        have HG6 : Hid (RW w (w6.alloc (enO x3)) p k (i + 1) tuE) := Lib.hid (H3.out.gro (HG5.out.trans g6))
        have Cc1 := kcell g6 Cb1
        have Cc4 := kcell g6 Cb4
        have Cd1 : (w6.alloc (enO x3)).cell? ⟨w6.heap.size, 1, none⟩ = some (.int .i64 x3.c) := (en_row x3 w6).cell (i := 1) (by omega)
        clear D3 g6 Cb1 Cb4 HG5 H3
        go_upto_region 15 with fail
        generalize w6.alloc (enO x3) = W6 at *
        generalize w6.heap.size = Bc at *
        rw [E3.out] at Cd1
        clear E3
        go_wp2_with fail
        go_roundg (T - (i + 1))
        case measure => omega
        case rel => exact ⟨i + 1, by go_num, by omega, by omega, HG6.out⟩
      ·
        have dk : decide ((0 : Int) < (k : Int)) = true := by simp; omega
        have dk2 : decide ((k : Int) > (0 : Int)) = true := by simp; omega
        have dk3 : decide (0 < k) = true := by simp; omega
        have dz : decide (d1 ≥ 0) = false := by simp; omega
        have dz2 : decide (0 ≤ d1) = false := by simp; omega
        have e1 : (tuE i).c = (i : Int) := rfl
        have e2 : (tuE i).p.i = q := hq
        obtain ⟨x1, hx1⟩ : ∃ x, tuE i = x := ⟨_, rfl⟩
        rw [hx1] at e1 e2
        have E1 := Lib.hid e1
        have E2 := Lib.hid e2
        clear e1 e2
        have C1 := Lib.hid (fun (W : World) (g : Gr w3 W) => (by rw [← hx1]; exact rw_in (H3.out.gro g) (by omega) i (by omega) (by omega) rfl : Calls Try.prog 10 #[.pointer (some ⟨p, 0, none⟩), .int .i64 (i : Int)] W fun e w' => e = .returned (.tuple #[enV x1, .bool true]) ∧ Gr W w'))
        have C2 := Lib.hid (fun (W : World) (g : Gr w3 W) => rw_out (H3.out.gro g) (by omega) d (by omega))
        have C3 := Lib.hid (fun (W : World) (g : Gr w3 W) => rw_out (H3.out.gro g) (by omega) d1 (by omega))
        clear hx1 hk0 hk1
        go_wp2_with fail
        refine (C1.out w3 (Ke.refl _ w3)).mono ?_
        rintro e w4 ⟨rfl, g4⟩
        have g4 : Gr w3 (w4.alloc (enO x1)) := g4.alloc _
        have R4 := en_row x1 w4
        have Ca1 : (w4.alloc (enO x1)).cell? ⟨w4.heap.size, 1, none⟩ = some (.int .i64 x1.c) := R4.cell (i := 1) (by omega)
        have Ca4 : (w4.alloc (enO x1)).cell? ⟨w4.heap.size, 4, none⟩ = some (.int .i64 x1.p.i) := R4.cell (i := 4) (by omega)
        have HG4 := Lib.hid g4
        have D2 := Lib.hid (C2.out _ g4)
        clear g4 R4
        go_wp2_with fail
        generalize w4.alloc (enO x1) = W4 at *
        generalize w4.heap.size = Ba at *
        rw [E1.out] at Ca1
        rw [E2.out] at Ca4
        clear E1 E2
        refine D2.out.mono ?_
        rintro e w5 ⟨rfl, g5⟩
        have g5 : Gr W4 (w5.alloc (enO en0)) := g5.alloc _
        have HG5 : Hid (Gr w3 (w5.alloc (enO en0))) := Lib.hid (HG4.out.trans g5)
        have Cb1 := kcell g5 Ca1
        have Cb4 := kcell g5 Ca4
        have D3 := Lib.hid (C3.out _ HG5.out)
        clear D2 g5 Ca1 Ca4 HG4
        go_wp2_with fail
        generalize w5.alloc (enO en0) = W5 at *
        generalize w5.heap.size = Bb at *
        refine D3.out.mono ?_
        rintro e w6 ⟨rfl, g6⟩
        have g6 : Gr W5 (w6.alloc (enO en0)) := g6.alloc _
        have HG6 : Hid (RW w (w6.alloc (enO en0)) p k (i + 1) tuE) := Lib.hid (H3.out.gro (HG5.out.trans g6))
        have Cc1 := kcell g6 Cb1
        have Cc4 := kcell g6 Cb4
        have Cd1 : (w6.alloc (enO en0)).cell? ⟨w6.heap.size, 1, none⟩ = some (.int .i64 0) := (en_row en0 w6).cell (i := 1) (by omega)
        clear D3 g6 Cb1 Cb4 HG5 H3
        go_wp2_with fail
        go_roundg (T - (i + 1))
        case measure => omega
        case rel => exact ⟨i + 1, by go_num, by omega, by omega, HG6.out⟩
    · obtain rfl : T = i := by omega
      have d0 : decide ((T : Int) < (T : Int)) = false := by simp
      obtain ⟨N, hN⟩ : ∃ N, min k T = N := ⟨_, rfl⟩
      have C : Hid (∃ F, Calls Try.prog 11 #[.pointer (some ⟨p, 0, none⟩), .int .i64 (-5)] wr (SinceQ wr N F)) := Lib.hid (by
        rcases Nat.eq_zero_or_pos N with h0 | h0
        · rw [h0]
          exact ⟨tuE, rw_since0 D.out (by omega) (-5) tuE (by omega)⟩
        · exact ⟨_, rw_since1 D.out (by omega) (-5) (T - k) N (by omega) (by omega) h0⟩)
      have HD := Lib.hid D.out
      obtain ⟨F, CF⟩ := C.out
      by_cases hkt : k ≤ T
      · obtain rfl : k = N := by omega
        have c1 : ((k : Int) ≤ (T : Int)) = True := eq_true (by omega)
        have c2 : (k ≤ T) = True := eq_true hkt
        have c3 : ((T : Int) < (k : Int)) = False := eq_false (by omega)
        have c4 : (T < k) = False := eq_false (by omega)
        have CF := Lib.hid CF
        clear D hN C hkt
        go_wp2_with fail
        refine CF.out.mono ?_
        rintro e w4 ⟨a, c, rfl, g4, -, -⟩
        have G4 := Lib.hid (HD.out.gr.trans g4)
        clear CF HD g4
        go_wp2
        go_ret
        exact ⟨rfl, G4.out⟩
      · obtain rfl : T = N := by omega
        have c1 : ((k : Int) ≤ (T : Int)) = False := eq_false (by omega)
        have c2 : (k ≤ T) = False := eq_false hkt
        have c3 : ((T : Int) < (k : Int)) = True := eq_true (by omega)
        have c4 : (T < k) = True := eq_true (by omega)
        have CF := Lib.hid CF
        clear D hN C hkt
        go_wp2_with fail
        refine CF.out.mono ?_
        rintro e w4 ⟨a, c, rfl, g4, -, -⟩
        have G4 := Lib.hid (HD.out.gr.trans g4)
        clear CF HD g4
        go_wp2
        go_ret
        exact ⟨rfl, G4.out⟩
end Go.Proofs.Ytgnfmmoanmhgpaa
