/- CalendarKnown, walked. -/
import Derived.Test.YtkpflhlalpkgnaaN8
namespace Go.Proofs.Ytkpflhlalpkgnaa
open Go.RowKit Go.Lib Go.Maps
set_option linter.unusedVariables false

/-- A block that is none of the calendar's. -/
theorem sv_not {w w' : World} {F F' : Nat → Prop} {g : Nat} (s : Sv F F' w w') (hg : g < w.heap.size) (hn : ¬ F g) : w'.heap[g]? = w.heap[g]? ∧ g < w'.heap.size ∧ ¬ F' g :=
  ⟨s.ke.block g hg hn, Nat.lt_of_lt_of_le hg s.ke.size, fun q => by
    rcases s.ft g q with e | e
    · exact hn e
    · omega⟩

set_option maxRecDepth 100000 in
set_option maxHeartbeats 4000000 in
theorem known_walk (w : World) : Calls Try.prog 5 #[] w fun e w' => e = .returned (.bool true) ∧ Below w.heap.size w w' := by
  have C := Lib.hid (awake_true w)
  go_enter Try.func5, Try.ntmps5
  go_wp2_with fail
  refine C.out.mono ?_
  rintro e w1 ⟨rfl, b1⟩
  have C := Lib.hid (law_new b1)
  clear b1
  go_wp2_with fail
  refine C.out.mono ?_
  rintro e w2 ⟨rfl, h2, _⟩
  have C := Lib.hid (law_next h2)
  have H2 := Lib.hid h2
  clear h2
  go_wp2_with fail
  refine C.out.mono ?_
  rintro e w3 ⟨rfl, g3⟩
  rw [show nx ([] : List Ky) = 0 from rfl, show nb ([] : List Ky) = false from rfl]
  have C := Lib.hid (law_put (H2.out.gr g3) (by omega) 3 7 (by decide))
  clear g3 H2
  go_wp2_with fail
  refine C.out.mono ?_
  rintro e w4 ⟨rfl, F4, h4, _⟩
  have C := Lib.hid (law_put h4 (by omega) 3 5 (by decide))
  clear h4
  go_wp2_with fail
  refine C.out.mono ?_
  rintro e w5 ⟨rfl, F5, h5, _⟩
  have C := Lib.hid (law_put h5 (by omega) (-2) 7 (by decide))
  clear h5
  go_wp2_with fail
  refine C.out.mono ?_
  rintro e w6 ⟨rfl, F6, h6, _⟩
  have C := Lib.hid (law_put h6 (by omega) 3 7 (by decide))
  clear h6
  go_wp2_with fail
  refine C.out.mono ?_
  rintro e w7 ⟨rfl, F7, h7, _⟩
  have C := Lib.hid (law_put h7 (by omega) 9 1 (by decide))
  clear h7
  go_wp2_with fail
  refine C.out.mono ?_
  rintro e w8 ⟨rfl, F8, h8, _⟩
  rw [show ins ((9 : Int), (1 : Int)) (ins (3, 7) (ins (-2, 7) (ins (3, 5) (ins (3, 7) [])))) = [(-2, 7), (3, 5), (3, 7), (3, 7), (9, 1)] from by decide] at h8
  have C := Lib.hid (law_next h8)
  have H8 := Lib.hid h8
  clear h8
  go_wp2_with fail
  refine C.out.mono ?_
  rintro e w9 ⟨rfl, g9⟩
  rw [show nx [((-2 : Int), (7 : Int)), (3, 5), (3, 7), (3, 7), (9, 1)] = -2 from rfl, show nb [((-2 : Int), (7 : Int)), (3, 5), (3, 7), (3, 7), (9, 1)] = true from rfl]
  have C := Lib.hid (law_due (H8.out.gr g9) (by decide) 3)
  clear g9 H8
  go_wp2_with fail
  refine C.out.mono ?_
  rintro e w10 ⟨v, rfl, q10⟩
  rw [show due 3 [((-2 : Int), (7 : Int)), (3, 5), (3, 7), (3, 7), (9, 1)] = [(-2, 7), (3, 5), (3, 7), (3, 7)] from by decide, show late 3 [((-2 : Int), (7 : Int)), (3, 5), (3, 7), (3, 7), (9, 1)] = [(9, 1)] from by decide] at q10
  obtain ⟨F10, h10, _, n10⟩ := q10.ex
  obtain ⟨g, cap, rfl, bg, lg, nc, cm⟩ := q10.row.form (by decide)
  have n10' := n10 g rfl
  have R10 := Lib.hid q10.row
  have C := Lib.hid (law_len h10)
  have H10 := Lib.hid h10
  clear h10 q10 n10
  go_wp2_with fail
  refine C.out.mono ?_
  rintro e w11 ⟨rfl, hw⟩
  obtain rfl := hw.symm
  clear hw
  have C := Lib.hid (law_put H10.out (by omega) 1 1 (by decide))
  clear H10
  go_wp2_with fail
  refine C.out.mono ?_
  rintro e w12 ⟨rfl, F12, h12, s12⟩
  obtain ⟨e12, l12, n12⟩ := sv_not s12 lg n10'
  rw [show ins ((1 : Int), (1 : Int)) [(9, 1)] = [(1, 1), (9, 1)] from by decide] at h12
  have C := Lib.hid (law_drop h12 (by omega) (by decide) 1 (by decide))
  have R12 := Lib.hid (R10.out.keep (fun k hk => by cases hk; exact e12))
  clear h12 s12 R10 e12 lg n10'
  go_wp2_with fail
  refine C.out.mono ?_
  rintro e w13 ⟨rfl, F13, h13, s13⟩
  obtain ⟨e13, l13, n13⟩ := sv_not s13 l12 n12
  rw [show rest 1 [((1 : Int), (1 : Int)), (9, 1)] = [] from by decide] at h13
  have R13 := R12.out.keep (fun k hk => by cases hk; exact e13)
  have r0 := R13.cell 0 (by decide)
  have r1 := R13.cell 1 (by decide)
  have r2 := R13.cell 2 (by decide)
  have r3 := R13.cell 3 (by decide)
  rw [show idc [((-2 : Int), (7 : Int)), (3, 5), (3, 7), (3, 7)] 0 = .int .i64 7 from rfl] at r0
  rw [show idc [((-2 : Int), (7 : Int)), (3, 5), (3, 7), (3, 7)] 1 = .int .i64 5 from rfl] at r1
  rw [show idc [((-2 : Int), (7 : Int)), (3, 5), (3, 7), (3, 7)] 2 = .int .i64 7 from rfl] at r2
  rw [show idc [((-2 : Int), (7 : Int)), (3, 5), (3, 7), (3, 7)] 3 = .int .i64 7 from rfl] at r3
  have C13 := Lib.hid (law_len h13)
  have H13 := Lib.hid h13
  clear h13 s13 R13 R12 e13
  simp only [List.length_cons, List.length_nil, Nat.zero_add] at *
  rw [show (((1 + 1 : Nat) - (rest 1 [((1 : Int), (1 : Int)), (9, 1)]).length : Nat) : Int) = 2 from by decide]
  go_wp2_with fail
  refine C13.out.mono ?_
  rintro e w14 ⟨rfl, hw⟩
  obtain rfl := hw.symm
  clear hw
  have C := Lib.hid (law_due H13.out (by decide) 100)
  clear H13
  go_wp2_with fail
  refine C.out.mono ?_
  rintro e w15 ⟨v, rfl, q15⟩
  rw [show due 100 ([] : List Ky) = [] from rfl, show late 100 ([] : List Ky) = [] from rfl] at q15
  obtain ⟨F15, h15, _, _⟩ := q15.ex
  have C := Lib.hid (law_drop h15 (by omega) (by decide) 1 (by decide))
  have sh := q15.row.shape
  clear h15 q15
  rcases sh with ⟨rfl, _⟩ | ⟨g', cap', rfl, _⟩
  all_goals
    simp only [List.length_nil]
    go_wp2_with fail
    refine C.out.mono ?_
    rintro e w16 ⟨rfl, F16, h16, _⟩
    go_wp2
    go_ret
    exact ⟨rfl, h16.below⟩
end Go.Proofs.Ytkpflhlalpkgnaa
