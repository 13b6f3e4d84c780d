/- NamesBack, walked. -/
import Derived.Test.YtldogmifealkkaaB1
namespace Go.Proofs.Ytldogmifealkkaa
open Go.RowKit Go.Lib Go.Maps
set_option linter.unusedVariables false

theorem ret_bool {a b : Bool} (h : a = b) : Ending.returned (.bool a) = Ending.returned (.bool b) := by rw [h]
theorem opW_full {j : Nat} (h1 : 1 ≤ j) (h2 : j ≤ 8) : (opW j).toList.isEmpty = false := by
  rcases (show j = 1 ∨ j = 2 ∨ j = 3 ∨ j = 4 ∨ j = 5 ∨ j = 6 ∨ j = 7 ∨ j = 8 by omega) with rfl | rfl | rfl | rfl | rfl | rfl | rfl | rfl <;> decide +kernel

set_option maxRecDepth 100000 in
set_option maxHeartbeats 1600000 in
theorem back_long (s : ByteArray) (op : Int) (hs : ¬ s.size ≤ 200) (w : World) :
    Calls Try.prog 6 #[.string s, .int .u8 op] w fun e w' => e = .returned (.bool true) ∧ Gr w w' := by
  have d0 : decide ((200 : Int) < (s.size : Int)) = true := by simp; omega
  have AW := Lib.hid (fun w => awake_any w)
  clear hs
  go_enter Try.func6, Try.ntmps6
  go_wp2_with fail
  refine (AW.out _).mono ?_
  rintro e w1 ⟨rfl, g1⟩
  have G1 := Lib.hid g1
  clear g1
  go_wp2_with fail
  refine (new_any w1).mono ?_
  rintro e w2 ⟨rfl, rfl⟩
  go_wp2
  go_ret
  exact ⟨rfl, G1.out.alloc _⟩

/-- What the last test of NamesBack asks. -/
structure Asked (op : Int) (wd : ByteArray) (j : Nat) (is : Bool) : Prop where
  word : atW opW 9 op sNone = wd
  num : numW wd = j
  yes : decide (0 < j) = is
  le : wd.size ≤ maxLen
  emp : wd.toList.isEmpty = !is
  same : is = true → ((j : Int) == op) = true

theorem asked_any (op : Int) (h0 : 0 ≤ op ∧ op ≤ 255) : ∃ wd j is, Asked op wd j is := by
  by_cases h : 1 ≤ op ∧ op ≤ 8
  · obtain ⟨k, rfl⟩ := Int.eq_ofNat_of_zero_le h0.1
    have k1 : 1 ≤ k := by omega
    have k2 : k ≤ 8 := by omega
    refine ⟨opW k, k, true, ?_, numW_op k1 k2, by simp; omega, opW_small k, ?_, by simp⟩
    · rw [atW_in (by omega)]; rfl
    · exact opW_full k1 k2
  · refine ⟨sNone, 0, false, ?_, by decide, rfl, by decide, by decide +kernel, fun h => by cases h⟩
    by_cases h9 : 9 ≤ op
    · exact atW_out (by omega)
    · obtain rfl : op = 0 := by omega
      decide

set_option maxRecDepth 100000 in
set_option maxHeartbeats 1600000 in
theorem back_walk (s : ByteArray) (op : Int) (hs : s.size ≤ 200) (h0 : 0 ≤ op ∧ op ≤ 255) (w : World) :
    Calls Try.prog 6 #[.string s, .int .u8 op] w fun e w' => e = .returned (.bool true) ∧ Gr w w' := by
  have d0 : decide ((200 : Int) < (s.size : Int)) = false := by simp; omega
  have AW := Lib.hid (fun w => awake_any w)
  have HS : Hid (s.size ≤ maxLen) := Lib.hid (by unfold maxLen; omega)
  obtain ⟨wd, j, is, hA⟩ := asked_any op h0
  have HA := Lib.hid hA
  clear hA
  obtain ⟨nw, hnw⟩ : ∃ nw, numW s = nw := ⟨_, rfl⟩
  have HN := Lib.hid hnw
  clear hs hnw
  go_enter Try.func6, Try.ntmps6
  go_wp2_with fail
  refine (AW.out _).mono ?_
  rintro e w1 ⟨rfl, g1⟩
  have G1 := Lib.hid g1
  clear g1
  go_wp2_with fail
  refine (new_any w1).mono ?_
  rintro e w2 ⟨rfl, rfl⟩
  have N0 := Lib.hid (NM.new w1)
  have G2 : Hid (Gr w (w1.alloc newO)) := Lib.hid (G1.out.alloc _)
  obtain ⟨p, hp⟩ : ∃ p, w1.heap.size = p := ⟨_, rfl⟩
  have HP : Hid (w.heap.size ≤ p) := Lib.hid (by rw [← hp]; exact G1.out.size)
  rw [hp] at N0 ⊢
  generalize w1.alloc newO = w2 at *
  clear hp G1
  go_wp2_with fail
  refine (number_any N0.out s HS.out).mono ?_
  rw [HN.out]
  rintro e w3 ⟨rfl, D⟩
  have D3 := Lib.hid D
  clear D
  have l8 : nw ≤ 8 := by rw [← HN.out]; exact numW_le s
  rcases Nat.eq_zero_or_pos nw with q0 | q0
  · subst q0
    have DK := D3
    clear D3
    go_wp2_with fail
    refine (op_any DK.out.2 op).mono ?_
    rw [HA.out.word]
    rintro e w5 ⟨rfl, D⟩
    have D5 := Lib.hid D
    clear D
    go_wp2_with fail
    refine (number_any D5.out.2 wd HA.out.le).mono ?_
    rw [HA.out.num, HA.out.yes]
    rintro e w6 ⟨rfl, D⟩
    have D6 := Lib.hid D
    clear D
    have t1 := HA.out.emp
    have o1 := HA.out.same
    have FIN : Hid (Gr w w6) := Lib.hid (G2.out.after ((DK.out.1.trans D5.out.1).trans D6.out.1) (fun j hj => by have := HP.out; omega))
    clear HA G2 DK D5 D6
    cases is with
    | false =>
      clear o1
      replace t1 : wd.toList.isEmpty = true := t1
      go_wp2
      go_ret
      exact ⟨rfl, FIN.out⟩
    | true =>
      replace t1 : wd.toList.isEmpty = false := t1
      replace o1 := o1 rfl
      go_wp2
      go_ret
      exact ⟨rfl, FIN.out⟩
  · have u1 : decide (0 < nw) = true := by simp [q0]
    have u2 : decide ((1 : Int) ≤ (nw : Int)) = true := by simp; omega
    have u3 : decide (1 ≤ nw) = true := by simp; omega
    have u4 : decide ((nw : Int) ≤ 8) = true := by simp; omega
    have u5 : decide (nw ≤ 8) = true := by simp; omega
    have SQ := Lib.hid (numW_pos (s := s) (by rw [HN.out]; exact q0))
    rw [HN.out] at SQ
    have OW : Hid (atW opW 9 (nw : Int) sNone = s) := Lib.hid (by rw [atW_in (by omega)]; exact SQ.out.symm)
    go_wp2_with fail
    refine (op_any D3.out.2 nw).mono ?_
    rw [OW.out]
    rintro e w4 ⟨rfl, D⟩
    have DK : Hid (DoneP w2 w4 p (p + 1)) := Lib.hid ⟨D3.out.1.trans D.1, D.2⟩
    clear D D3
    go_wp2_with fail
    refine (op_any DK.out.2 op).mono ?_
    rw [HA.out.word]
    rintro e w5 ⟨rfl, D⟩
    have D5 := Lib.hid D
    clear D
    go_wp2_with fail
    refine (number_any D5.out.2 wd HA.out.le).mono ?_
    rw [HA.out.num, HA.out.yes]
    rintro e w6 ⟨rfl, D⟩
    have D6 := Lib.hid D
    clear D
    have t1 := HA.out.emp
    have o1 := HA.out.same
    have FIN : Hid (Gr w w6) := Lib.hid (G2.out.after ((DK.out.1.trans D5.out.1).trans D6.out.1) (fun j hj => by have := HP.out; omega))
    clear HA G2 DK D5 D6
    cases is with
    | false =>
      clear o1
      replace t1 : wd.toList.isEmpty = true := t1
      go_wp2
      go_ret
      exact ⟨rfl, FIN.out⟩
    | true =>
      replace t1 : wd.toList.isEmpty = false := t1
      replace o1 := o1 rfl
      go_wp2
      go_ret
      exact ⟨rfl, FIN.out⟩
end Go.Proofs.Ytldogmifealkkaa
