/- The law's first sentence: a job that has less than it should. -/
import Derived.Test.YtlpjojegdnconaaDoorV1
namespace Go.Proofs.YtlpjojegdnconaaDoor
open Go.RowKit Go.Lib Go.Maps
open Ca (Ke Gr Sv Row Cl Ky Bs blk_other)
set_option linter.unusedVariables false
set_option maxRecDepth 100000
set_option maxHeartbeats 4000000

/-- A box aside of jobs. -/
theorem sv_cell {w w' : World} {F F' : Nat → Prop} (s : Sv F F' w w') {a : Addr} {v : Value} (c : w.cell? a = some v) (hn : ¬ F a.block) : w'.cell? a = some v := (s.ke.cell (Ca.lt_of_cell c) hn).trans c
theorem jw_out {w0 w : World} {p n c : Nat} {F : Nat → Prop} {S : List Tk} (h : JW w0 w p n c F S) {b : Nat} (hb : w.heap.size ≤ b) : ¬ F b := fun q => by have := (h.jb.lt q).2; omega

theorem awake_true (w : World) (hT : Tab w) : Calls Tryd.prog 8 #[] w fun e w' => e = .returned (.bool true) ∧ Gr w w' := by
  have C := Lib.hid (jw_new hT (Ke.refl _ w) 3 3 (by omega) (by simp))
  clear hT
  go_enter Tryd.func8, Tryd.ntmps8
  go_wp2_with fail
  refine C.out.mono ?_
  rintro e w1 ⟨p, F1, rfl, h1, -, -⟩
  have C := Lib.hid (jw_join h1 5 1 2 false (by decide))
  rw [show joE [] 3 5 1 2 = 0 from by decide, show joS [] 3 5 1 2 false = [newT 5 1 2 false] from by decide] at C
  clear h1
  go_wp2_with fail
  refine C.out.mono ?_
  rintro e w2 ⟨rfl, F2, h2, -⟩
  have C := Lib.hid (jw_release h2 (t := 0) (by omega) (by omega) (by omega))
  rw [show relI [newT 5 1 2 false] = [5] from by decide, show relT 0 [newT 5 1 2 false] = [⟨5, 1, 2, false, false, false, true, 0, 0, false, 1⟩] from by decide] at C
  clear h2
  go_wp2_with fail
  refine C.out.mono ?_
  rintro e w3 ⟨u, rfl, F3, r3, h3, -, nf3⟩
  have C := Lib.hid (jw_task h3 5 (by decide))
  unfold TkQ at C
  rw [show getT [(⟨5, 1, 2, false, false, false, true, 0, 0, false, 1⟩ : Tk)] 5 = some ⟨5, 1, 2, false, false, false, true, 0, 0, false, 1⟩ from by decide] at C
  simp only [Option.getD_some, Option.isSome_some, aggT] at C
  have H3 := Lib.hid h3
  have R3 := Lib.hid r3
  have N3 := Lib.hid nf3
  clear h3 r3 nf3
  go_wp2_with fail
  refine C.out.mono ?_
  rintro e w4 ⟨rfl, g4⟩
  have G4 := Lib.hid g4
  clear g4 C
  go_upto_region 6 with fail
  obtain ⟨W, hW⟩ : ∃ W, W = w4.alloc (.cells #[.int .i64 5, .int .i64 1, .int .i64 2, .bool false, .bool false, .bool false, .bool true, .int .i64 0, .int .i64 0, .bool false, .int .i64 1] 49) := ⟨_, rfl⟩
  obtain ⟨b, hb⟩ : ∃ b, b = w4.heap.size := ⟨_, rfl⟩
  have k6 : W.cell? ⟨b, 6, none⟩ = some (.bool true) := by rw [hW, hb]; simp [go_sem]
  have k10 : W.cell? ⟨b, 10, none⟩ = some (.int .i64 1) := by rw [hW, hb]; simp [go_sem]
  have gW : Gr w3 W := by rw [hW]; exact G4.out.alloc _
  have hb3 : w3.heap.size ≤ b := by rw [hb]; exact G4.out.size
  have h4 := H3.out.gro gW
  have r4 := rowI_gr R3.out gW
  rw [← hW, ← hb]
  have C := Lib.hid (jw_settle h4 2)
  rw [show stlI 2 [(⟨5, 1, 2, false, false, false, true, 0, 0, false, 1⟩ : Tk)] = [] from by decide, show stlN 2 [(⟨5, 1, 2, false, false, false, true, 0, 0, false, 1⟩ : Tk)] = 1 from by decide] at C
  have nb := jw_out H3.out hb3
  have H4 := Lib.hid h4
  have R4 := Lib.hid r4
  have NB := Lib.hid nb
  clear hW hb gW h4 r4 nb hb3 G4
  go_wp2_with fail
  refine C.out.mono ?_
  rintro e w5 ⟨u5, rfl, F5, r5, h5, s5, nf5⟩
  have k6' := sv_cell s5 k6 NB.out
  have k10' := sv_cell s5 k10 NB.out
  have r6 := rowI_keep R4.out s5.ke N3.out
  obtain ⟨x5, c5, rfl⟩ := rowI_form r5
  have H5 := Lib.hid h5
  have R6 := Lib.hid r6
  clear C s5 r5 nf5 h5 r6 k6 k10 R3 R4 H3 H4
  have lit := rowI_lit w5 [5] #[.int .i64 5] rfl (by decide)
  have IN := Lib.hid (ints_any (rowI_gr R6.out ((Ke.refl _ w5).alloc _)) lit)
  rw [show decide (([5] : List Int) = [5]) = true from rfl] at IN
  clear lit
  simp only [List.length_nil, List.length_cons, Nat.zero_add] at *
  have a6 := Ca.gcell ((Ke.refl _ w5).alloc (.cells #[.int .i64 5] 3)) k6'
  have a10 := Ca.gcell ((Ke.refl _ w5).alloc (.cells #[.int .i64 5] 3)) k10'
  clear k6' k10'
  go_wp2_with fail
  refine IN.out.mono ?_
  rintro e w6 ⟨rfl, g6⟩
  have a6' := Ca.gcell g6 a6
  have a10' := Ca.gcell g6 a10
  have G6 := Lib.hid g6
  clear g6 a6 a10 IN
  go_wp2_with fail
  go_ret
  exact ⟨rfl, (H5.out.gr.trans ((Ke.refl _ w5).alloc _)).trans G6.out⟩
end Go.Proofs.YtlpjojegdnconaaDoor
