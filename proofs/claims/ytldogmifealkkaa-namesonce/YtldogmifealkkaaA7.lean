/- Contracts of Op, Mode, Err, Number. -/
import Derived.Test.YtldogmifealkkaaA6
namespace Go.Proofs.Ytldogmifealkkaa
open Go.RowKit Go.Lib Go.Maps
set_option linter.unusedVariables false

set_option maxRecDepth 100000 in
/-- Op. -/
theorem op_any {w : World} {p s : Nat} {m : Bool} (h : NM w p s m) (i : Int) : Calls Try.prog 12 #[.pointer (some ⟨p, 0, none⟩), .int .i64 i] w fun e w' => e = .returned (.string (atW opW 9 i sNone)) ∧ DoneP w w' p s := by
  have A := Lib.hid (ask_any h)
  clear h
  go_enter Try.func12, Try.ntmps12
  go_wp2_with fail
  refine A.out.mono ?_
  rintro e w1 ⟨rfl, D⟩
  obtain ⟨_, _, _, _, bo, bm, be, cap, mb, T⟩ := D.2
  have c3 := T.c3
  have HD := Lib.hid D
  have C := Lib.hid (fun (i : Int) (o : ByteArray) => at_any (c := 9) (by omega) T.op i o)
  clear T D A
  go_wp2_with fail
  refine (C.out _ _).mono ?_
  rintro e w2 ⟨rfl, rfl⟩
  go_wp2
  go_ret
  exact ⟨rfl, HD.out⟩
set_option maxRecDepth 100000 in
/-- Mode. -/
theorem mode_any {w : World} {p s : Nat} {m : Bool} (h : NM w p s m) (i : Int) : Calls Try.prog 13 #[.pointer (some ⟨p, 0, none⟩), .int .i64 i] w fun e w' => e = .returned (.string (atW moW 5 i sNone)) ∧ DoneP w w' p s := by
  have A := Lib.hid (ask_any h)
  clear h
  go_enter Try.func13, Try.ntmps13
  go_wp2_with fail
  refine A.out.mono ?_
  rintro e w1 ⟨rfl, D⟩
  obtain ⟨_, _, _, _, bo, bm, be, cap, mb, T⟩ := D.2
  have c3 := T.c4
  have HD := Lib.hid D
  have C := Lib.hid (fun (i : Int) (o : ByteArray) => at_any (c := 5) (by omega) T.mo i o)
  clear T D A
  go_wp2_with fail
  refine (C.out _ _).mono ?_
  rintro e w2 ⟨rfl, rfl⟩
  go_wp2
  go_ret
  exact ⟨rfl, HD.out⟩
set_option maxRecDepth 100000 in
/-- Err. -/
theorem err_any {w : World} {p s : Nat} {m : Bool} (h : NM w p s m) (i : Int) : Calls Try.prog 14 #[.pointer (some ⟨p, 0, none⟩), .int .i64 i] w fun e w' => e = .returned (.string (atW erW 15 i sErr)) ∧ DoneP w w' p s := by
  have A := Lib.hid (ask_any h)
  clear h
  go_enter Try.func14, Try.ntmps14
  go_wp2_with fail
  refine A.out.mono ?_
  rintro e w1 ⟨rfl, D⟩
  obtain ⟨_, _, _, _, bo, bm, be, cap, mb, T⟩ := D.2
  have c3 := T.c5
  have HD := Lib.hid D
  have C := Lib.hid (fun (i : Int) (o : ByteArray) => at_any (c := cap) (by omega) T.er i o)
  clear T D A
  go_wp2_with fail
  refine (C.out _ _).mono ?_
  rintro e w2 ⟨rfl, rfl⟩
  go_wp2
  go_ret
  exact ⟨rfl, HD.out⟩
set_option maxRecDepth 100000 in
/-- Number. -/
theorem number_any {w : World} {p s : Nat} {m : Bool} (h : NM w p s m) (x : ByteArray) (hx : x.size ≤ maxLen) : Calls Try.prog 11 #[.pointer (some ⟨p, 0, none⟩), .string x] w fun e w' => e = .returned (.tuple #[.int .i64 (numW x : Nat), .bool (decide (0 < numW x))]) ∧ DoneP w w' p s := by
  have A := Lib.hid (ask_any h)
  have KEY : Hid (keyOf Try.prog 9 (.string x) = some (.string x.data.toList)) := Go.WideMaps.keyOf_string_mk Try.underlying9 hx
  obtain ⟨nw, hnw⟩ : ∃ nw : Nat, numW x = nw := ⟨_, rfl⟩
  have HN := Lib.hid hnw
  rw [hnw]
  clear hnw
  clear h
  go_enter Try.func11, Try.ntmps11
  go_wp2_with fail
  refine A.out.mono ?_
  rintro e w1 ⟨rfl, D⟩
  obtain ⟨_, _, _, _, bo, bm, be, cap, mb, T⟩ := D.2
  have c6 := T.c6
  have HD := Lib.hid D
  obtain ⟨Dm, own, n⟩ := T.mp
  have OW := Lib.hid own
  obtain ⟨L1, L2⟩ := n.look x
  have HL1 := Lib.hid L1
  have HL2 := Lib.hid L2
  rw [HN.out] at HL1 HL2
  clear T D A own n L1 L2
  go_wp2_with (at_lookup; refine wpList_lookup_own_ok_int _ rfl _ _ 49 rfl 9 3 .i64 law9 Try.underlying49 Try.underlying3 (zero3 _) mb 8 Dm rfl OW.out _ _ rfl KEY.out ?_; intro c hc _; obtain rfl : c = (nw : Int) := (by have q := hc.symm.trans HL1.out; cases q; rfl); clear hc; rw [HL2.out])
  refine bodyPost_ret (v := .tuple #[.int .i64 nw, .bool (decide (0 < nw))]) (by simp [results, Try.results11, go_sem]) rfl ?_
  exact ⟨rfl, HD.out⟩

/-- Made, of tables that are made. -/
theorem made1 {w : World} {p s : Nat} (h : NM w p s true) : Calls Try.prog 9 #[.pointer (some ⟨p, 0, none⟩)] w fun e w' => e = .returned (.int .i64 1) ∧ w' = w := made_any h.2.2.2.1
/-- Made, of tables that are not. -/
theorem made0 {w : World} {p s : Nat} (h : NM w p s false) : Calls Try.prog 9 #[.pointer (some ⟨p, 0, none⟩)] w fun e w' => e = .returned (.int .i64 0) ∧ w' = w := made_any h.2.2.2.2.1
end Go.Proofs.Ytldogmifealkkaa
