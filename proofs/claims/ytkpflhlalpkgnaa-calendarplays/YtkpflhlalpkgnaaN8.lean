/- The calendar in a law: the blocks that lay ahead of the call are as they were; the law's first sentence (awake). -/
import Derived.Test.YtkpflhlalpkgnaaM8
namespace Go.Proofs.Ytkpflhlalpkgnaa
open Go.RowKit Go.Lib Go.Maps
set_option linter.unusedVariables false

/-- The calendar at p in a call that began in w0. -/
structure CL (w0 w : World) (p c : Nat) (F : Nat → Prop) (L : List Ky) : Prop where
  cl : Cl w w0.heap.size p c F L
  below : Below w0.heap.size w0 w
section
variable {w0 w w' : World} {p c c' : Nat} {F F' : Nat → Prop} {L L' : List Ky}
theorem below_sv (h : Below w0.heap.size w0 w) (s : Sv F F' w w') (hF : ∀ g, F g → w0.heap.size ≤ g) : Below w0.heap.size w0 w' :=
  h.trans (s.ke.below h.size (fun k hk q => by have := hF k q; omega))
theorem below_ke (h : Below w0.heap.size w0 w) (s : Ke F w w') (hF : ∀ g, F g → w0.heap.size ≤ g) : Below w0.heap.size w0 w' :=
  h.trans (s.below h.size (fun k hk q => by have := hF k q; omega))
theorem CL.own (h : CL w0 w p c F L) (g : Nat) (hg : F g) : w0.heap.size ≤ g := (h.cl.lt hg).1
theorem CL.next (h : CL w0 w p c F L) (s : Cl w' w0.heap.size p c' F' L') (v : Sv F F' w w') : CL w0 w' p c' F' L' := ⟨s, below_sv h.below v h.own⟩
theorem CL.gr (h : CL w0 w p c F L) (g : Gr w w') : CL w0 w' p c F L := ⟨h.cl.gr g, below_ke h.below g (fun _ q => q.elim)⟩

/-- What a call leaves. -/
def LV (w0 w : World) (p c : Nat) (F : Nat → Prop) (L : List Ky) (w' : World) : Prop := ∃ F', CL w0 w' p c F' L ∧ Sv F F' w w'
theorem CL.lv (h : CL w0 w p c F L) (q : Lv w w0.heap.size p c' F L' w') : LV w0 w p c' F L' w' := by
  obtain ⟨F', c2, s⟩ := q
  exact ⟨F', h.next c2 s, s⟩
theorem law_new (hb : Below w0.heap.size w0 w) : Calls Try.prog 8 #[] w fun e w' => e = .returned (.pointer (some ⟨w.heap.size, 0, none⟩)) ∧ CL w0 w' w.heap.size 0 (fun k => k = w.heap.size) [] ∧ Gr w w' := by
  refine (cal_new w).mono ?_
  rintro e w' ⟨rfl, rfl⟩
  have g : Gr w (w.alloc CO) := (Ke.refl _ _).alloc _
  exact ⟨rfl, ⟨cl_made w _ hb.size, below_ke hb g (fun _ q => q.elim)⟩, g⟩
theorem law_put (h : CL w0 w p c F L) (hc : c + 1 ≤ 65535) (t i : Int) (hi : (Lit.int .i64 i).wf = true) : Calls Try.prog 9 #[.pointer (some ⟨p, 0, none⟩), .int .i64 t, .int .i64 i] w fun e w' => e = .returned (.tuple #[]) ∧ LV w0 w p (c + 1) F (ins (t, i) L) w' := by
  refine (cl_put h.cl hc t i hi).mono ?_
  rintro e w' ⟨rfl, q⟩
  exact ⟨rfl, h.lv q⟩
theorem law_next (h : CL w0 w p c F L) : Calls Try.prog 12 #[.pointer (some ⟨p, 0, none⟩)] w fun e w' => e = .returned (.tuple #[.int .i64 (nx L), .bool (nb L)]) ∧ Gr w w' := cl_next h.cl
theorem law_len (h : CL w0 w p c F L) : Calls Try.prog 13 #[.pointer (some ⟨p, 0, none⟩)] w fun e w' => e = .returned (.int .i64 (L.length : Nat)) ∧ w' = w := cl_len h.cl
theorem law_drop (h : CL w0 w p c F L) (hc : c ≤ 65535) (hl : L.length ≤ 1000000) (i : Int) (hi : (Lit.int .i64 i).wf = true) : Calls Try.prog 11 #[.pointer (some ⟨p, 0, none⟩), .int .i64 i] w fun e w' => e = .returned (.int .i64 ((L.length - (rest i L).length : Nat) : Int)) ∧ LV w0 w p c F (rest i L) w' := by
  refine (cl_drop h.cl hc hl i hi).mono ?_
  rintro e w' ⟨rfl, q⟩
  exact ⟨rfl, h.lv q⟩
/-- What Due answers: a row of the ids, in new memory. -/
structure DQ (w0 w : World) (p c : Nat) (F : Nat → Prop) (D R : List Ky) (v : Value) (w' : World) : Prop where
  ex : ∃ F', CL w0 w' p c F' R ∧ Sv F F' w w' ∧ ∀ g, v.ownBlock = some g → ¬ F' g
  row : Row w' w.heap.size 3 1 v D.length (idc D)
def DuQ (w0 w : World) (p c : Nat) (F : Nat → Prop) (L : List Ky) (t : Int) (e : Ending) (w' : World) : Prop := ∃ v, e = .returned v ∧ DQ w0 w p c F (due t L) (late t L) v w'
theorem law_due (h : CL w0 w p c F L) (hl : L.length ≤ 1000000) (t : Int) : Calls Try.prog 10 #[.pointer (some ⟨p, 0, none⟩), .int .i64 t] w fun e w' => DuQ w0 w p c F L t e w' := by
  refine (cl_due h.cl hl t).mono ?_
  rintro e w' ⟨v, rfl, q⟩
  obtain ⟨F', c2, s, n⟩ := q.ex
  exact ⟨v, rfl, ⟨F', h.next c2 s, s, n⟩, q.row⟩
end

set_option maxRecDepth 100000 in
set_option maxHeartbeats 2000000 in
theorem awake_true (w : World) : Calls Try.prog 7 #[] w fun e w' => e = .returned (.bool true) ∧ Below w.heap.size w w' := by
  have C := Lib.hid (law_new (Below.refl _ w))
  go_enter Try.func7, Try.ntmps7
  go_wp2_with fail
  refine C.out.mono ?_
  rintro e w1 ⟨rfl, h1, _⟩
  have C := Lib.hid (law_put h1 (by omega) 9 1 (by decide))
  go_wp2_with fail
  refine C.out.mono ?_
  rintro e w2 ⟨rfl, F2, h2, _⟩
  have C := Lib.hid (law_put h2 (by omega) 5 2 (by decide))
  clear h2
  go_wp2_with fail
  refine C.out.mono ?_
  rintro e w3 ⟨rfl, F3, h3, _⟩
  rw [show ins ((5 : Int), (2 : Int)) (ins (9, 1) []) = [(5, 2), (9, 1)] from by decide] at h3
  have C := Lib.hid (law_next h3)
  have H3 := Lib.hid h3
  clear h3
  go_wp2_with fail
  refine C.out.mono ?_
  rintro e w4 ⟨rfl, g4⟩
  rw [show nx [((5 : Int), (2 : Int)), (9, 1)] = 5 from rfl, show nb [((5 : Int), (2 : Int)), (9, 1)] = true from rfl]
  have C := Lib.hid (law_due (H3.out.gr g4) (by decide) 8)
  clear g4 H3
  go_wp2_with fail
  refine C.out.mono ?_
  rintro e w5 ⟨v, rfl, q5⟩
  rw [show due 8 [((5 : Int), (2 : Int)), (9, 1)] = [(5, 2)] from by decide, show late 8 [((5 : Int), (2 : Int)), (9, 1)] = [(9, 1)] from by decide] at q5
  obtain ⟨F5, h5, _, _⟩ := q5.ex
  obtain ⟨g, cap, rfl, bg, lg, nc, cm⟩ := q5.row.form (by decide)
  have r0 := q5.row.cell 0 (by decide)
  rw [show idc [((5 : Int), (2 : Int))] 0 = .int .i64 2 from rfl] at r0
  have C := Lib.hid (law_len h5)
  have H5 := Lib.hid h5
  clear h5 q5
  simp only [List.length_cons, List.length_nil, Nat.zero_add] at *
  go_wp2_with fail
  refine C.out.mono ?_
  rintro e w6 ⟨rfl, hw⟩
  obtain rfl := hw.symm
  go_wp2
  go_ret
  exact ⟨rfl, H5.out.below⟩
end Go.Proofs.Ytkpflhlalpkgnaa
