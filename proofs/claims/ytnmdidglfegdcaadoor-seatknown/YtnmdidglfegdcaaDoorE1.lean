/- The law SeatKnown, walked. -/
import Derived.Test.YtnmdidglfegdcaaDoorD3
import Derived.Deep.QuietTactic
namespace Go.Proofs.YtnmdidglfegdcaaDoor
open Go.RowKit Go.Lib Go.Maps Go.Sort
set_option linter.unusedVariables false
set_option maxRecDepth 100000
set_option maxHeartbeats 4000000

/-- Two rows that are alike. -/
theorem one_yes {w : World} {ba bb : Nat} {va vb : Value} {l : List Int} (ha : RowI w ba va l) (hb : RowI w bb vb l) (h0 : 0 < l.length) :
    Calls Tryd.prog 16 #[va, .int .i64 0, vb] w fun e w' => e = .returned (.bool true) ∧ Gr w w' := by
  obtain ⟨ga, ca, rfl, _, _, hca, hcm⟩ := Row.form ha h0
  have hNm : l.length ≤ 9223372036854775807 := by unfold maxLen at hcm; omega
  clear hca hcm
  obtain ⟨gb, cb, rfl, _⟩ := Row.form hb h0
  have cella := fun j hj => Row.cell ha j hj
  have cellb := fun j hj => Row.cell hb j hj
  obtain ⟨N, hN⟩ : ∃ N, N = l.length := ⟨_, rfl⟩
  rw [← hN] at cella cellb hNm ⊢
  have CA := Lib.hid cella
  have CB := Lib.hid cellb
  clear cella cellb ha hb hN h0
  go_enter Tryd.func16, Tryd.ntmps16
  go_wp2_with fail
  go_loopg [7] N (fun kx s4 wr => ∃ k : Nat, s4 = .int .i64 k ∧ k ≤ N ∧ N - k ≤ kx ∧ Aside (Gr w wr))
  case atStart => exact ⟨0, rfl, by omega, by omega, Ke.refl _ _⟩
  case round =>
    obtain ⟨k, rfl, hk, hkx, HI⟩ := hrel
    by_cases hlt : k < N
    · have hltz : (k : Int) < (N : Int) := by omega
      have ka := gcell HI.out (CA.out k (by omega))
      have kb := gcell HI.out (CB.out k (by omega))
      unfold iR at ka kb
      obtain ⟨xa, hxa⟩ : ∃ x, l.getD k 0 = x := ⟨_, rfl⟩
      rw [hxa] at ka kb
      clear hxa
      have d : (xa != xa) = false := by simp
      go_wp2_with fail
      go_quiet (fail)
      go_wp2_with fail
      go_roundg (N - (k + 1))
      case measure => omega
      case rel => exact ⟨k + 1, by go_num, by omega, Nat.le_refl _, HI.out.trans ((Ke.refl _ _).drewN _)⟩
    · have hltz : ¬ (k : Int) < (N : Int) := by omega
      go_wp2
      go_ret
      exact ⟨rfl, HI.out⟩

def kA1 : Af := nxA (sit 3 A0 N0 [1, 2, 3]) A0
def kN1 : Nf := nxN (sit 3 A0 N0 [1, 2, 3])
def kA2 : Af := nxA (sit 3 kA1 kN1 [3, 4]) kA1
def kN2 : Nf := nxN (sit 3 kA1 kN1 [3, 4])
def kA3 : Af := nxA (sit 3 kA2 kN2 [1, 2, 4]) kA2
def kN3 : Nf := nxN (sit 3 kA2 kN2 [1, 2, 4])
def kA4 : Af := up kA3 4 none
def kN4 : Nf := up kN3 4 false
def kA5 : Af := nxA (sit 3 kA4 kN4 [1, 3, 4]) kA4
def kN5 : Nf := nxN (sit 3 kA4 kN4 [1, 3, 4])

theorem known_walk (w : World) (hT : Tab w) : Calls Tryd.prog 5 #[] w fun e w' => e = .returned (.bool true) ∧ Gr w w' := by
  have AW := Lib.hid (awake_true w hT)
  have C := Lib.hid (fun (W : World) (g : Gr w W) => sw_new (k := 3) hT g 3 (by decide))
  clear hT
  go_enter Tryd.func5, Tryd.ntmps5
  go_wp2_with fail
  refine AW.out.mono ?_
  rintro e w0 ⟨rfl, g0⟩
  have C := Lib.hid (C.out w0 g0)
  clear AW g0
  go_wp2_with fail
  refine C.out.mono ?_
  rintro e w1 ⟨p, bm, rfl, s1, -, -, -⟩
  have s1 : SW w w1 p bm 3 0 A0 N0 := s1
  clear C
  have al1 := (Ke.refl (fun _ => False) w1).alloc (.cells #[.int .i64 1, .int .i64 2, .int .i64 3] 3)
  have C := Lib.hid (sw_sit (s1.gro al1) (idIn_lit w1 [1, 2, 3] #[.int .i64 1, .int .i64 2, .int .i64 3] rfl (by decide) 3 rfl) (off_lit s1.lt.1 s1.lt.2) (by decide) (by decide) (by omega))
  unfold SitQ at C
  obtain ⟨q0, q1, q2, q3⟩ := sit_lit (k := 3) A0 N0 (l := [1, 2, 3]) (m := [1, 2, 3]) (by decide) (by decide) (by decide) (by decide)
  rw [q0, q1, q2, q3, show [1, 2, 3].map (fun x => ((((sit 3 A0 N0 [1, 2, 3]).G x).getD 0 : Nat) : Int)) = [0, 1, 2] from by decide +kernel] at C
  have al1 := Lib.hid s1.lt
  clear s1 q0 q1 q2 q3
  go_wp2_with fail
  refine C.out.mono ?_
  rintro e w2 ⟨u1, rfl, row1, s2, -⟩
  have s2 : SW w w2 p bm 3 1 kA1 kN1 := s2
  clear C al1
  have lit := rowI_lit w2 [0, 1, 2] #[.int .i64 0, .int .i64 1, .int .i64 2] rfl (by decide)
  have O := Lib.hid (one_yes (rowI_gr row1 ((Ke.refl _ w2).alloc (.cells #[.int .i64 0, .int .i64 1, .int .i64 2] 3))) lit (by decide))
  simp only [List.length_cons, List.length_nil, Nat.zero_add, Nat.reduceAdd] at O
  have S := Lib.hid (s2.gro ((Ke.refl _ w2).alloc (.cells #[.int .i64 0, .int .i64 1, .int .i64 2] 3)))
  obtain ⟨xu, cu, rfl⟩ := rowI_form row1
  simp only [List.length_cons, List.length_nil, Nat.zero_add, Nat.reduceAdd] at O
  clear lit row1 s2
  go_wp2_with fail
  refine O.out.mono ?_
  rintro e w3 ⟨rfl, g2⟩
  have s3 := S.out.gro g2
  clear S O g2
  have al3 := (Ke.refl (fun _ => False) w3).alloc (.cells #[.int .i64 4, .int .i64 3] 3)
  have C := Lib.hid (sw_sit (s3.gro al3) (idIn_lit w3 [4, 3] #[.int .i64 4, .int .i64 3] rfl (by decide) 2 rfl) (off_lit s3.lt.1 s3.lt.2) (by decide) (by decide) (by omega))
  unfold SitQ at C
  obtain ⟨q0, q1, q2, q3⟩ := sit_lit (k := 3) kA1 kN1 (l := [4, 3]) (m := [3, 4]) (by decide) (by decide) (by decide) (by decide)
  rw [q0, q1, q2, q3, show [4, 3].map (fun x => ((((sit 3 kA1 kN1 [3, 4]).G x).getD 0 : Nat) : Int)) = [0, 2] from by decide +kernel] at C
  have al3 := Lib.hid s3.lt
  clear s3 q0 q1 q2 q3
  go_wp2_with fail
  refine C.out.mono ?_
  rintro e w4 ⟨u3, rfl, row3, s4, -⟩
  have s4 : SW w w4 p bm 3 2 kA2 kN2 := s4
  clear C al3
  have lit := rowI_lit w4 [0, 2] #[.int .i64 0, .int .i64 2] rfl (by decide)
  have O := Lib.hid (one_yes (rowI_gr row3 ((Ke.refl _ w4).alloc (.cells #[.int .i64 0, .int .i64 2] 3))) lit (by decide))
  simp only [List.length_cons, List.length_nil, Nat.zero_add, Nat.reduceAdd] at O
  have S := Lib.hid (s4.gro ((Ke.refl _ w4).alloc (.cells #[.int .i64 0, .int .i64 2] 3)))
  obtain ⟨xu, cu, rfl⟩ := rowI_form row3
  simp only [List.length_cons, List.length_nil, Nat.zero_add, Nat.reduceAdd] at O
  clear lit row3 s4
  go_wp2_with fail
  refine O.out.mono ?_
  rintro e w5 ⟨rfl, g4⟩
  have s5 := S.out.gro g4
  clear S O g4
  have al5 := (Ke.refl (fun _ => False) w5).alloc (.cells #[.int .i64 1, .int .i64 2, .int .i64 4] 3)
  have C := Lib.hid (sw_sit (s5.gro al5) (idIn_lit w5 [1, 2, 4] #[.int .i64 1, .int .i64 2, .int .i64 4] rfl (by decide) 3 rfl) (off_lit s5.lt.1 s5.lt.2) (by decide) (by decide) (by omega))
  unfold SitQ at C
  obtain ⟨q0, q1, q2, q3⟩ := sit_lit (k := 3) kA2 kN2 (l := [1, 2, 4]) (m := [1, 2, 4]) (by decide) (by decide) (by decide) (by decide)
  rw [q0, q1, q2, q3, show [1, 2, 4].map (fun x => ((((sit 3 kA2 kN2 [1, 2, 4]).G x).getD 0 : Nat) : Int)) = [2, 1, 0] from by decide +kernel] at C
  have al5 := Lib.hid s5.lt
  clear s5 q0 q1 q2 q3
  go_wp2_with fail
  refine C.out.mono ?_
  rintro e w6 ⟨u5, rfl, row5, s6, -⟩
  have s6 : SW w w6 p bm 3 3 kA3 kN3 := s6
  clear C al5
  have lit := rowI_lit w6 [2, 1, 0] #[.int .i64 2, .int .i64 1, .int .i64 0] rfl (by decide)
  have O := Lib.hid (one_yes (rowI_gr row5 ((Ke.refl _ w6).alloc (.cells #[.int .i64 2, .int .i64 1, .int .i64 0] 3))) lit (by decide))
  simp only [List.length_cons, List.length_nil, Nat.zero_add, Nat.reduceAdd] at O
  have S := Lib.hid (s6.gro ((Ke.refl _ w6).alloc (.cells #[.int .i64 2, .int .i64 1, .int .i64 0] 3)))
  obtain ⟨xu, cu, rfl⟩ := rowI_form row5
  simp only [List.length_cons, List.length_nil, Nat.zero_add, Nat.reduceAdd] at O
  clear lit row5 s6
  go_wp2_with fail
  refine O.out.mono ?_
  rintro e w7 ⟨rfl, g6⟩
  have s7 := S.out.gro g6
  clear S O g6
  have al7 := (Ke.refl (fun _ => False) w7).alloc (.cells #[.int .i64 1, .int .i64 2, .int .i64 3, .int .i64 4] 3)
  have C := Lib.hid (sw_sit (s7.gro al7) (idIn_lit w7 [1, 2, 3, 4] #[.int .i64 1, .int .i64 2, .int .i64 3, .int .i64 4] rfl (by decide) 4 rfl) (off_lit s7.lt.1 s7.lt.2) (by decide) (by decide) (by omega))
  unfold SitQ at C
  have q0 : sitE 3 [1, 2, 3, 4] = 6 := by decide
  rw [show sitA 3 kA3 kN3 [1, 2, 3, 4] = kA3 from by unfold sitA; rw [q0]; rfl, show sitN 3 kA3 kN3 [1, 2, 3, 4] = kN3 from by unfold sitN; rw [q0]; rfl, q0] at C
  clear s7 q0 al7
  go_wp2_with fail
  refine C.out.mono ?_
  rintro e w8 ⟨u7, rfl, -, s8, -⟩
  have s8 : SW w w8 p bm 3 4 kA3 kN3 := s8
  clear C
  have al8 := (Ke.refl (fun _ => False) w8).alloc (.cells #[.int .i64 1, .int .i64 1] 3)
  have C := Lib.hid (sw_sit (s8.gro al8) (idIn_lit w8 [1, 1] #[.int .i64 1, .int .i64 1] rfl (by decide) 2 rfl) (off_lit s8.lt.1 s8.lt.2) (by decide) (by decide) (by omega))
  unfold SitQ at C
  have q0 : sitE 3 [1, 1] = 2 := by decide
  rw [show sitA 3 kA3 kN3 [1, 1] = kA3 from by unfold sitA; rw [q0]; rfl, show sitN 3 kA3 kN3 [1, 1] = kN3 from by unfold sitN; rw [q0]; rfl, q0] at C
  clear s8 q0 al8
  go_wp2_with fail
  refine C.out.mono ?_
  rintro e w9 ⟨u8, rfl, -, s9, -⟩
  have s9 : SW w w9 p bm 3 5 kA3 kN3 := s9
  clear C
  have C := Lib.hid (sw_forget s9 4 (by decide))
  clear s9
  go_wp2_with fail
  refine C.out.mono ?_
  rintro e w10 ⟨rfl, s10, -⟩
  have s10 : SW w w10 p bm 3 5 kA4 kN4 := s10
  clear C
  have al10 := (Ke.refl (fun _ => False) w10).alloc (.cells #[.int .i64 4, .int .i64 1, .int .i64 3] 3)
  have C := Lib.hid (sw_sit (s10.gro al10) (idIn_lit w10 [4, 1, 3] #[.int .i64 4, .int .i64 1, .int .i64 3] rfl (by decide) 3 rfl) (off_lit s10.lt.1 s10.lt.2) (by decide) (by decide) (by omega))
  unfold SitQ at C
  obtain ⟨q0, q1, q2, q3⟩ := sit_lit (k := 3) kA4 kN4 (l := [4, 1, 3]) (m := [1, 3, 4]) (by decide) (by decide) (by decide) (by decide)
  rw [q0, q1, q2, q3, show [4, 1, 3].map (fun x => ((((sit 3 kA4 kN4 [1, 3, 4]).G x).getD 0 : Nat) : Int)) = [1, 2, 0] from by decide +kernel] at C
  have al10 := Lib.hid s10.lt
  clear s10 q0 q1 q2 q3
  go_wp2_with fail
  refine C.out.mono ?_
  rintro e w11 ⟨u10, rfl, row10, s11, -⟩
  have s11 : SW w w11 p bm 3 6 kA5 kN5 := s11
  clear C al10
  have C := Lib.hid (sw_last s11 9 (by decide))
  rw [show kA5 9 = none from by decide +kernel] at C
  have S := Lib.hid s11
  have R := Lib.hid row10
  clear s11 row10
  go_wp2_with fail
  refine C.out.mono ?_
  rintro e w12 ⟨rfl, g12⟩
  have s12 := S.out.gro g12
  have row12 := rowI_gr R.out g12
  clear C S R g12
  have C := Lib.hid (sw_last s12 2 (by decide))
  rw [show kA5 2 = some 1 from by decide +kernel] at C
  have S := Lib.hid s12
  have R := Lib.hid row12
  clear s12 row12
  go_wp2_with fail
  refine C.out.mono ?_
  rintro e w13 ⟨rfl, g13⟩
  have s13 := S.out.gro g13
  have row13 := rowI_gr R.out g13
  clear C S R g13
  have lit := rowI_lit w13 [1, 2, 0] #[.int .i64 1, .int .i64 2, .int .i64 0] rfl (by decide)
  have O := Lib.hid (one_yes (rowI_gr row13 ((Ke.refl _ w13).alloc (.cells #[.int .i64 1, .int .i64 2, .int .i64 0] 3))) lit (by decide))
  simp only [List.length_cons, List.length_nil, Nat.zero_add, Nat.reduceAdd] at O
  have S := Lib.hid (s13.gro ((Ke.refl _ w13).alloc (.cells #[.int .i64 1, .int .i64 2, .int .i64 0] 3)))
  clear lit row13 s13
  go_wp2_with fail
  refine O.out.mono ?_
  rintro e w14 ⟨rfl, g14⟩
  have s14 := Lib.hid (S.out.gro g14)
  clear S O g14
  go_wp2_with fail
  go_ret
  exact ⟨rfl, s14.out.gr⟩
end Go.Proofs.YtnmdidglfegdcaaDoor
