/- JobsKnown walked (written by gen12/known.py). -/
import Derived.Test.YtlpjojegdnconaaDoorV2
namespace Go.Proofs.YtlpjojegdnconaaDoor
open Go.RowKit Go.Lib Go.Maps
open Ca (Ke Gr Sv Row Cl Ky Bs blk_other)
set_option linter.unusedVariables false
set_option maxRecDepth 100000
set_option maxHeartbeats 8000000
theorem lits_cells (w : World) (l : List Int) (cs : Array Value) (hcs : cs = (l.map (Value.int .i64)).toArray) (j : Nat) (hj : j < l.length) : ((w.alloc (.cells cs 32)).alloc (.cells cs 32)).cell? ⟨w.heap.size, j, none⟩ = some (.int .i64 (l.getD j 0)) ∧ ((w.alloc (.cells cs 32)).alloc (.cells cs 32)).cell? ⟨w.heap.size + 1, j, none⟩ = some (.int .i64 (l.getD j 0)) := by
  have b0 : (w.alloc (.cells cs 32)).heap[w.heap.size]? = some (.cells cs 32 (0, 0)) := heap_alloc_new w _
  have c0 : (w.alloc (.cells cs 32)).cell? ⟨w.heap.size, j, none⟩ = some (.int .i64 (l.getD j 0)) := by
    simp only [World.cell?, b0]
    rw [hcs]
    simp [hj, List.getD_eq_getElem?_getD]
  have e1 : (w.alloc (.cells cs 32)).heap.size = w.heap.size + 1 := by simp
  have b1 := heap_alloc_new (w.alloc (.cells cs 32)) (.cells cs 32)
  rw [e1] at b1
  refine ⟨Ca.gcell ((Ke.refl _ _).alloc _) c0, ?_⟩
  simp only [World.cell?, b1]
  rw [hcs]
  simp [hj, List.getD_eq_getElem?_getD]
theorem known_walk (w : World) (hT : Tab w) : Calls Tryd.prog 4 #[] w fun e w' => e = .returned (.bool true) ∧ Gr w w' := by
  have AW := Lib.hid (awake_true w hT)
  go_enter Tryd.func4, Tryd.ntmps4
  go_wp2_with fail
  refine AW.out.mono ?_
  rintro e wa ⟨rfl, ga⟩
  have C := Lib.hid (jw_new hT ga 2 2 (by omega) (by simp))
  clear ga AW hT
  go_wp2_with fail
  refine C.out.mono ?_
  rintro e w0 ⟨p, F0, rfl, h0, -, -⟩
  have H0 := Lib.hid h0
  clear h0 C
  have C := Lib.hid (jw_join H0.out 1 0 2 false (by decide))
  rw [show joE ([] : List Tk) 2 1 0 2 = 2 from by decide, show joS ([] : List Tk) 2 1 0 2 false = [] from by decide] at C
  go_wp2_with fail
  refine C.out.mono ?_
  rintro e w1 ⟨rfl, F1, h1, s1⟩
  have H1 := Lib.hid h1
  clear h1 s1 H0
  clear C
  have C := Lib.hid (jw_join H1.out 1 3 2 false (by decide))
  rw [show joE ([] : List Tk) 2 1 3 2 = 2 from by decide, show joS ([] : List Tk) 2 1 3 2 false = [] from by decide] at C
  go_wp2_with fail
  refine C.out.mono ?_
  rintro e w2 ⟨rfl, F2, h2, s2⟩
  have H2 := Lib.hid h2
  clear h2 s2 H1
  clear C
  have C := Lib.hid (jw_join H2.out 1 1 1048576 false (by decide))
  rw [show joE ([] : List Tk) 2 1 1 1048576 = 2 from by decide, show joS ([] : List Tk) 2 1 1 1048576 false = [] from by decide] at C
  go_wp2_with fail
  refine C.out.mono ?_
  rintro e w3 ⟨rfl, F3, h3, s3⟩
  have H3 := Lib.hid h3
  clear h3 s3 H2
  clear C
  have C := Lib.hid (jw_join H3.out 1 1 2 false (by decide))
  rw [show joE ([] : List Tk) 2 1 1 2 = 0 from by decide, show joS ([] : List Tk) 2 1 1 2 false = [⟨1, 1, 2, false, false, false, false, 0, 0, false, 0⟩] from by decide] at C
  go_wp2_with fail
  refine C.out.mono ?_
  rintro e w4 ⟨rfl, F4, h4, s4⟩
  have H4 := Lib.hid h4
  clear h4 s4 H3
  clear C
  have C := Lib.hid (jw_join H4.out 1 1 2 true (by decide))
  rw [show joE ([⟨1, 1, 2, false, false, false, false, 0, 0, false, 0⟩] : List Tk) 2 1 1 2 = 4 from by decide, show joS ([⟨1, 1, 2, false, false, false, false, 0, 0, false, 0⟩] : List Tk) 2 1 1 2 true = [⟨1, 1, 2, false, false, false, false, 0, 0, false, 0⟩] from by decide] at C
  go_wp2_with fail
  refine C.out.mono ?_
  rintro e w5 ⟨rfl, F5, h5, s5⟩
  have H5 := Lib.hid h5
  clear h5 s5 H4
  clear C
  have C := Lib.hid (jw_join H5.out 2 1 4 true (by decide))
  rw [show joE ([⟨1, 1, 2, false, false, false, false, 0, 0, false, 0⟩] : List Tk) 2 2 1 4 = 0 from by decide, show joS ([⟨1, 1, 2, false, false, false, false, 0, 0, false, 0⟩] : List Tk) 2 2 1 4 true = [⟨1, 1, 2, false, false, false, false, 0, 0, false, 0⟩, ⟨2, 1, 4, true, false, false, false, 0, 0, false, 0⟩] from by decide] at C
  go_wp2_with fail
  refine C.out.mono ?_
  rintro e w6 ⟨rfl, F6, h6, s6⟩
  have H6 := Lib.hid h6
  clear h6 s6 H5
  clear C
  have C := Lib.hid (jw_join H6.out 3 1 1 false (by decide))
  rw [show joE ([⟨1, 1, 2, false, false, false, false, 0, 0, false, 0⟩, ⟨2, 1, 4, true, false, false, false, 0, 0, false, 0⟩] : List Tk) 2 3 1 1 = 6 from by decide, show joS ([⟨1, 1, 2, false, false, false, false, 0, 0, false, 0⟩, ⟨2, 1, 4, true, false, false, false, 0, 0, false, 0⟩] : List Tk) 2 3 1 1 false = [⟨1, 1, 2, false, false, false, false, 0, 0, false, 0⟩, ⟨2, 1, 4, true, false, false, false, 0, 0, false, 0⟩] from by decide] at C
  go_wp2_with fail
  refine C.out.mono ?_
  rintro e w7 ⟨rfl, F7, h7, s7⟩
  have H7 := Lib.hid h7
  clear h7 s7 H6
  clear C
  have C := Lib.hid (jw_arrive H7.out 1 (by decide))
  rw [show arE ([⟨1, 1, 2, false, false, false, false, 0, 0, false, 0⟩, ⟨2, 1, 4, true, false, false, false, 0, 0, false, 0⟩] : List Tk) 1 = 9 from by decide, show arS ([⟨1, 1, 2, false, false, false, false, 0, 0, false, 0⟩, ⟨2, 1, 4, true, false, false, false, 0, 0, false, 0⟩] : List Tk) 1 = [⟨1, 1, 2, false, false, false, false, 0, 0, false, 0⟩, ⟨2, 1, 4, true, false, false, false, 0, 0, false, 0⟩] from by decide] at C
  go_wp2_with fail
  refine C.out.mono ?_
  rintro e w8 ⟨rfl, F8, h8, s8⟩
  have H8 := Lib.hid h8
  clear h8 s8 H7
  clear C
  have C := Lib.hid (jw_arrive H8.out 9 (by decide))
  rw [show arE ([⟨1, 1, 2, false, false, false, false, 0, 0, false, 0⟩, ⟨2, 1, 4, true, false, false, false, 0, 0, false, 0⟩] : List Tk) 9 = 5 from by decide, show arS ([⟨1, 1, 2, false, false, false, false, 0, 0, false, 0⟩, ⟨2, 1, 4, true, false, false, false, 0, 0, false, 0⟩] : List Tk) 9 = [⟨1, 1, 2, false, false, false, false, 0, 0, false, 0⟩, ⟨2, 1, 4, true, false, false, false, 0, 0, false, 0⟩] from by decide] at C
  go_wp2_with fail
  refine C.out.mono ?_
  rintro e w9 ⟨rfl, F9, h9, s9⟩
  have H9 := Lib.hid h9
  clear h9 s9 H8
  clear C
  have C := Lib.hid (jw_finish H9.out 1 (by decide))
  rw [show fiE ([⟨1, 1, 2, false, false, false, false, 0, 0, false, 0⟩, ⟨2, 1, 4, true, false, false, false, 0, 0, false, 0⟩] : List Tk) 1 = 11 from by decide, show fiS ([⟨1, 1, 2, false, false, false, false, 0, 0, false, 0⟩, ⟨2, 1, 4, true, false, false, false, 0, 0, false, 0⟩] : List Tk) 1 = [⟨1, 1, 2, false, false, false, false, 0, 0, false, 0⟩, ⟨2, 1, 4, true, false, false, false, 0, 0, false, 0⟩] from by decide] at C
  go_wp2_with fail
  refine C.out.mono ?_
  rintro e w10 ⟨rfl, F10, h10, s10⟩
  have H10 := Lib.hid h10
  clear h10 s10 H9
  clear C
  have C := Lib.hid (jw_finish H10.out 9 (by decide))
  rw [show fiE ([⟨1, 1, 2, false, false, false, false, 0, 0, false, 0⟩, ⟨2, 1, 4, true, false, false, false, 0, 0, false, 0⟩] : List Tk) 9 = 5 from by decide, show fiS ([⟨1, 1, 2, false, false, false, false, 0, 0, false, 0⟩, ⟨2, 1, 4, true, false, false, false, 0, 0, false, 0⟩] : List Tk) 9 = [⟨1, 1, 2, false, false, false, false, 0, 0, false, 0⟩, ⟨2, 1, 4, true, false, false, false, 0, 0, false, 0⟩] from by decide] at C
  go_wp2_with fail
  refine C.out.mono ?_
  rintro e w11 ⟨rfl, F11, h11, s11⟩
  have H11 := Lib.hid h11
  clear h11 s11 H10
  clear C
  have C := Lib.hid (jw_arrive H11.out 2 (by decide))
  rw [show arE ([⟨1, 1, 2, false, false, false, false, 0, 0, false, 0⟩, ⟨2, 1, 4, true, false, false, false, 0, 0, false, 0⟩] : List Tk) 2 = 0 from by decide, show arS ([⟨1, 1, 2, false, false, false, false, 0, 0, false, 0⟩, ⟨2, 1, 4, true, false, false, false, 0, 0, false, 0⟩] : List Tk) 2 = [⟨1, 1, 2, false, false, false, false, 0, 0, false, 0⟩, ⟨2, 1, 4, true, false, true, false, 0, 0, false, 0⟩] from by decide] at C
  go_wp2_with fail
  refine C.out.mono ?_
  rintro e w12 ⟨rfl, F12, h12, s12⟩
  have H12 := Lib.hid h12
  clear h12 s12 H11
  clear C
  have C := Lib.hid (jw_arrive H12.out 2 (by decide))
  rw [show arE ([⟨1, 1, 2, false, false, false, false, 0, 0, false, 0⟩, ⟨2, 1, 4, true, false, true, false, 0, 0, false, 0⟩] : List Tk) 2 = 10 from by decide, show arS ([⟨1, 1, 2, false, false, false, false, 0, 0, false, 0⟩, ⟨2, 1, 4, true, false, true, false, 0, 0, false, 0⟩] : List Tk) 2 = [⟨1, 1, 2, false, false, false, false, 0, 0, false, 0⟩, ⟨2, 1, 4, true, false, true, false, 0, 0, false, 0⟩] from by decide] at C
  go_wp2_with fail
  refine C.out.mono ?_
  rintro e w13 ⟨rfl, F13, h13, s13⟩
  have H13 := Lib.hid h13
  clear h13 s13 H12
  clear C
  go_upto_region 8 with fail
  obtain ⟨w14, hW⟩ : ∃ W, W = (w13.alloc (.cells #[.int .i64 2, .int .i64 2, .int .i64 2, .int .i64 0, .int .i64 4, .int .i64 0, .int .i64 6, .int .i64 9, .int .i64 5, .int .i64 11, .int .i64 5, .int .i64 0, .int .i64 10] 32)).alloc (.cells #[.int .i64 2, .int .i64 2, .int .i64 2, .int .i64 0, .int .i64 4, .int .i64 0, .int .i64 6, .int .i64 9, .int .i64 5, .int .i64 11, .int .i64 5, .int .i64 0, .int .i64 10] 32) := ⟨_, rfl⟩
  have e1 : (w13.alloc (.cells #[.int .i64 2, .int .i64 2, .int .i64 2, .int .i64 0, .int .i64 4, .int .i64 0, .int .i64 6, .int .i64 9, .int .i64 5, .int .i64 11, .int .i64 5, .int .i64 0, .int .i64 10] 32)).heap.size = w13.heap.size + 1 := by simp
  have LC := Lib.hid (lits_cells w13 [2, 2, 2, 0, 4, 0, 6, 9, 5, 11, 5, 0, 10] #[.int .i64 2, .int .i64 2, .int .i64 2, .int .i64 0, .int .i64 4, .int .i64 0, .int .i64 6, .int .i64 9, .int .i64 5, .int .i64 11, .int .i64 5, .int .i64 0, .int .i64 10] rfl)
  have gW : Gr w13 w14 := by rw [hW]; exact ((Ke.refl _ _).alloc _).alloc _
  try rw [e1]
  rw [← hW] at LC ⊢
  have h14 := H13.out.gro gW
  have s14 : Sv F13 F13 w13 w14 := Ca.Sv.of_gr gW
  clear hW gW e1
  have H14 := Lib.hid h14
  clear h14 s14 H13
  skip
  generalize w13.heap.size = B at *
  go_wp2_with fail
  go_loopg [4] 13 (fun kx s4 wr => ∃ k : Nat, s4 = .int .i64 k ∧ k ≤ 13 ∧ 13 - k ≤ kx ∧ Aside (Gr w14 wr))
  case atStart => exact ⟨0, rfl, by omega, by omega, Ke.refl _ _⟩
  case round =>
    obtain ⟨k, rfl, hk, hkx, GI⟩ := hrel
    by_cases hlt : k < 13
    · have hltz : (k : Int) < 13 := by omega
      have ka := Ca.gcell GI.out (LC.out k hlt).1
      have kb := Ca.gcell GI.out (LC.out k hlt).2
      clear LC
      generalize ([2, 2, 2, 0, 4, 0, 6, 9, 5, 11, 5, 0, 10] : List Int).getD k 0 = x at *
      go_wp2_with fail
      go_quiet (fail)
      go_wp2_with fail
      go_roundg (13 - (k + 1))
      case measure => omega
      case rel => exact ⟨k + 1, by go_num, by omega, Nat.le_refl _, GI.out.trans ((Ke.refl _ _).drewN _)⟩
    · have hltz : ¬ (k : Int) < 13 := by omega
      obtain rfl : k = 13 := by omega
      clear LC hk hkx hlt
      have h15 := H14.out.gro GI.out
      have s15 : Sv F13 F13 w14 wr := Ca.Sv.of_gr GI.out
      obtain ⟨w15, hwr⟩ : ∃ W, W = wr := ⟨_, rfl⟩
      rw [← hwr] at h15 s15 ⊢
      clear hwr GI
      have H15 := Lib.hid h15
      clear h15 s15 H14
      skip
      have C := Lib.hid (jw_release H15.out (t := 10) (by omega) (by omega) (by omega))
      rw [show relI ([⟨1, 1, 2, false, false, false, false, 0, 0, false, 0⟩, ⟨2, 1, 4, true, false, true, false, 0, 0, false, 0⟩] : List Tk) = [1, 2] from by decide, show relT 10 ([⟨1, 1, 2, false, false, false, false, 0, 0, false, 0⟩, ⟨2, 1, 4, true, false, true, false, 0, 0, false, 0⟩] : List Tk) = [⟨1, 1, 2, false, false, false, true, 10, 0, false, 1⟩, ⟨2, 1, 4, true, false, false, true, 10, 0, false, 1⟩] from by decide] at C
      go_wp2_with fail
      refine C.out.mono ?_
      rintro e w16 ⟨ur, rfl, F16, rr, h16, s16, nfr⟩
      have Rr := Lib.hid rr
      have NFr := Lib.hid nfr
      have SVr16 := Lib.hid (Ca.Sv.refl F16 w16)
      obtain ⟨xr, cr, rfl⟩ := rowI_form rr
      clear rr nfr
      simp only [List.length_nil, List.length_cons, Nat.zero_add, Nat.reduceAdd] at *
      have H16 := Lib.hid h16
      clear h16 s16 H15
      clear C
      have C := Lib.hid (jw_leave H16.out 2 (by decide))
      rw [show lvB ([⟨1, 1, 2, false, false, false, true, 10, 0, false, 1⟩, ⟨2, 1, 4, true, false, false, true, 10, 0, false, 1⟩] : List Tk) 2 = false from by decide, show lvE ([⟨1, 1, 2, false, false, false, true, 10, 0, false, 1⟩, ⟨2, 1, 4, true, false, false, true, 10, 0, false, 1⟩] : List Tk) 2 = 0 from by decide, show lvS ([⟨1, 1, 2, false, false, false, true, 10, 0, false, 1⟩, ⟨2, 1, 4, true, false, false, true, 10, 0, false, 1⟩] : List Tk) 2 = [⟨1, 1, 2, false, false, false, true, 10, 0, false, 1⟩, ⟨2, 1, 4, true, true, false, true, 10, 0, false, 1⟩] from by decide] at C
      go_wp2_with fail
      refine C.out.mono ?_
      rintro e w17 ⟨rfl, F17, h17, s17⟩
      have SVr17 := Lib.hid (SVr16.out.trans s17)
      have H17 := Lib.hid h17
      clear h17 s17 H16 SVr16
      clear C
      have C := Lib.hid (jw_leave H17.out 2 (by decide))
      rw [show lvB ([⟨1, 1, 2, false, false, false, true, 10, 0, false, 1⟩, ⟨2, 1, 4, true, true, false, true, 10, 0, false, 1⟩] : List Tk) 2 = false from by decide, show lvE ([⟨1, 1, 2, false, false, false, true, 10, 0, false, 1⟩, ⟨2, 1, 4, true, true, false, true, 10, 0, false, 1⟩] : List Tk) 2 = 13 from by decide, show lvS ([⟨1, 1, 2, false, false, false, true, 10, 0, false, 1⟩, ⟨2, 1, 4, true, true, false, true, 10, 0, false, 1⟩] : List Tk) 2 = [⟨1, 1, 2, false, false, false, true, 10, 0, false, 1⟩, ⟨2, 1, 4, true, true, false, true, 10, 0, false, 1⟩] from by decide] at C
      go_wp2_with fail
      refine C.out.mono ?_
      rintro e w18 ⟨rfl, F18, h18, s18⟩
      have SVr18 := Lib.hid (SVr17.out.trans s18)
      have H18 := Lib.hid h18
      clear h18 s18 H17 SVr17
      clear C
      have C := Lib.hid (jw_arrive H18.out 2 (by decide))
      rw [show arE ([⟨1, 1, 2, false, false, false, true, 10, 0, false, 1⟩, ⟨2, 1, 4, true, true, false, true, 10, 0, false, 1⟩] : List Tk) 2 = 13 from by decide, show arS ([⟨1, 1, 2, false, false, false, true, 10, 0, false, 1⟩, ⟨2, 1, 4, true, true, false, true, 10, 0, false, 1⟩] : List Tk) 2 = [⟨1, 1, 2, false, false, false, true, 10, 0, false, 1⟩, ⟨2, 1, 4, true, true, false, true, 10, 0, false, 1⟩] from by decide] at C
      go_wp2_with fail
      refine C.out.mono ?_
      rintro e w19 ⟨rfl, F19, h19, s19⟩
      have SVr19 := Lib.hid (SVr18.out.trans s19)
      have H19 := Lib.hid h19
      clear h19 s19 H18 SVr18
      clear C
      have C := Lib.hid (jw_finish H19.out 2 (by decide))
      rw [show fiE ([⟨1, 1, 2, false, false, false, true, 10, 0, false, 1⟩, ⟨2, 1, 4, true, true, false, true, 10, 0, false, 1⟩] : List Tk) 2 = 0 from by decide, show fiS ([⟨1, 1, 2, false, false, false, true, 10, 0, false, 1⟩, ⟨2, 1, 4, true, true, false, true, 10, 0, false, 1⟩] : List Tk) 2 = [⟨1, 1, 2, false, false, false, true, 10, 0, false, 1⟩, ⟨2, 1, 4, true, true, false, true, 10, 0, true, 1⟩] from by decide] at C
      go_wp2_with fail
      refine C.out.mono ?_
      rintro e w20 ⟨rfl, F20, h20, s20⟩
      have SVr20 := Lib.hid (SVr19.out.trans s20)
      have H20 := Lib.hid h20
      clear h20 s20 H19 SVr19
      clear C
      have C := Lib.hid (jw_finish H20.out 2 (by decide))
      rw [show fiE ([⟨1, 1, 2, false, false, false, true, 10, 0, false, 1⟩, ⟨2, 1, 4, true, true, false, true, 10, 0, true, 1⟩] : List Tk) 2 = 12 from by decide, show fiS ([⟨1, 1, 2, false, false, false, true, 10, 0, false, 1⟩, ⟨2, 1, 4, true, true, false, true, 10, 0, true, 1⟩] : List Tk) 2 = [⟨1, 1, 2, false, false, false, true, 10, 0, false, 1⟩, ⟨2, 1, 4, true, true, false, true, 10, 0, true, 1⟩] from by decide] at C
      go_wp2_with fail
      refine C.out.mono ?_
      rintro e w21 ⟨rfl, F21, h21, s21⟩
      have SVr21 := Lib.hid (SVr20.out.trans s21)
      have H21 := Lib.hid h21
      clear h21 s21 H20 SVr20
      clear C
      have C := Lib.hid (jw_give H21.out 1 (by decide))
      rw [show gvB ([⟨1, 1, 2, false, false, false, true, 10, 0, false, 1⟩, ⟨2, 1, 4, true, true, false, true, 10, 0, true, 1⟩] : List Tk) 1 = true from by decide, show gvS ([⟨1, 1, 2, false, false, false, true, 10, 0, false, 1⟩, ⟨2, 1, 4, true, true, false, true, 10, 0, true, 1⟩] : List Tk) 1 = [⟨1, 1, 2, false, false, false, true, 10, 1, false, 1⟩, ⟨2, 1, 4, true, true, false, true, 10, 0, true, 1⟩] from by decide] at C
      go_wp2_with fail
      refine C.out.mono ?_
      rintro e w22 ⟨rfl, F22, h22, s22⟩
      have SVr22 := Lib.hid (SVr21.out.trans s22)
      have H22 := Lib.hid h22
      clear h22 s22 H21 SVr21
      clear C
      have C := Lib.hid (jw_give H22.out 1 (by decide))
      rw [show gvB ([⟨1, 1, 2, false, false, false, true, 10, 1, false, 1⟩, ⟨2, 1, 4, true, true, false, true, 10, 0, true, 1⟩] : List Tk) 1 = false from by decide, show gvS ([⟨1, 1, 2, false, false, false, true, 10, 1, false, 1⟩, ⟨2, 1, 4, true, true, false, true, 10, 0, true, 1⟩] : List Tk) 1 = [⟨1, 1, 2, false, false, false, true, 10, 1, false, 1⟩, ⟨2, 1, 4, true, true, false, true, 10, 0, true, 1⟩] from by decide] at C
      go_wp2_with fail
      refine C.out.mono ?_
      rintro e w23 ⟨rfl, F23, h23, s23⟩
      have SVr23 := Lib.hid (SVr22.out.trans s23)
      have H23 := Lib.hid h23
      clear h23 s23 H22 SVr22
      clear C
      have C := Lib.hid (jw_finish H23.out 1 (by decide))
      rw [show fiE ([⟨1, 1, 2, false, false, false, true, 10, 1, false, 1⟩, ⟨2, 1, 4, true, true, false, true, 10, 0, true, 1⟩] : List Tk) 1 = 12 from by decide, show fiS ([⟨1, 1, 2, false, false, false, true, 10, 1, false, 1⟩, ⟨2, 1, 4, true, true, false, true, 10, 0, true, 1⟩] : List Tk) 1 = [⟨1, 1, 2, false, false, false, true, 10, 1, false, 1⟩, ⟨2, 1, 4, true, true, false, true, 10, 0, true, 1⟩] from by decide] at C
      go_wp2_with fail
      refine C.out.mono ?_
      rintro e w24 ⟨rfl, F24, h24, s24⟩
      have SVr24 := Lib.hid (SVr23.out.trans s24)
      have H24 := Lib.hid h24
      clear h24 s24 H23 SVr23
      clear C
      have C := Lib.hid (jw_settle H24.out 12)
      rw [show stlI 12 ([⟨1, 1, 2, false, false, false, true, 10, 1, false, 1⟩, ⟨2, 1, 4, true, true, false, true, 10, 0, true, 1⟩] : List Tk) = [] from by decide, show stlN 12 ([⟨1, 1, 2, false, false, false, true, 10, 1, false, 1⟩, ⟨2, 1, 4, true, true, false, true, 10, 0, true, 1⟩] : List Tk) = 0 from by decide, show stlT 12 ([⟨1, 1, 2, false, false, false, true, 10, 1, false, 1⟩, ⟨2, 1, 4, true, true, false, true, 10, 0, true, 1⟩] : List Tk) = [⟨1, 1, 2, false, false, false, false, 0, 0, false, 1⟩, ⟨2, 1, 4, true, true, false, true, 10, 0, true, 1⟩] from by decide] at C
      go_wp2_with fail
      refine C.out.mono ?_
      rintro e w25 ⟨ug, rfl, F25, rg, h25, s25, nfg⟩
      have Rg := Lib.hid rg
      have NFg := Lib.hid nfg
      have SVg25 := Lib.hid (Ca.Sv.refl F25 w25)
      obtain ⟨xg, cg, rfl⟩ := rowI_form rg
      clear rg nfg
      simp only [List.length_nil] at *
      have SVr25 := Lib.hid (SVr24.out.trans s25)
      have H25 := Lib.hid h25
      clear h25 s25 H24 SVr24
      clear C
      have C := Lib.hid (jw_task H25.out 1 (by decide))
      unfold TkQ at C
      rw [show getT ([⟨1, 1, 2, false, false, false, false, 0, 0, false, 1⟩, ⟨2, 1, 4, true, true, false, true, 10, 0, true, 1⟩] : List Tk) 1 = some ⟨1, 1, 2, false, false, false, false, 0, 0, false, 1⟩ from by decide] at C
      simp only [Option.getD_some, Option.isSome_some, aggT] at C
      go_wp2_with fail
      refine C.out.mono ?_
      rintro e v26 ⟨rfl, g26⟩
      have G26 := Lib.hid g26
      clear g26 C
      go_upto_region 23 with fail
      obtain ⟨w26, hW⟩ : ∃ W, W = v26.alloc (.cells #[.int .i64 1, .int .i64 1, .int .i64 2, .bool false, .bool false, .bool false, .bool false, .int .i64 0, .int .i64 0, .bool false, .int .i64 1] 49) := ⟨_, rfl⟩
      obtain ⟨ba, hb⟩ : ∃ b, b = v26.heap.size := ⟨_, rfl⟩
      have ka6 : w26.cell? ⟨ba, 6, none⟩ = some (.bool false) := by rw [hW, hb]; simp [go_sem]
      have ka10 : w26.cell? ⟨ba, 10, none⟩ = some (.int .i64 1) := by rw [hW, hb]; simp [go_sem]
      have ka8 : w26.cell? ⟨ba, 8, none⟩ = some (.int .i64 0) := by rw [hW, hb]; simp [go_sem]
      have gW : Gr w25 w26 := by rw [hW]; exact G26.out.alloc _
      have NBa := Lib.hid (jw_out H25.out (b := ba) (by rw [hb]; exact G26.out.size))
      have Ka6 := Lib.hid ka6
      have Ka10 := Lib.hid ka10
      have Ka8 := Lib.hid ka8
      have SVa26 := Lib.hid (Ca.Sv.refl F25 w26)
      have h26 := H25.out.gro gW
      have s26 : Sv F25 F25 w25 w26 := Ca.Sv.of_gr gW
      rw [← hW, ← hb]
      clear hW hb gW ka6 ka10 ka8
      have SVr26 := Lib.hid (SVr25.out.trans s26)
      have SVg26 := Lib.hid (SVg25.out.trans s26)
      have H26 := Lib.hid h26
      clear h26 s26 H25 SVr25 SVg25
      skip
      have C := Lib.hid (jw_settle H26.out 14)
      rw [show stlI 14 ([⟨1, 1, 2, false, false, false, false, 0, 0, false, 1⟩, ⟨2, 1, 4, true, true, false, true, 10, 0, true, 1⟩] : List Tk) = [2] from by decide, show stlN 14 ([⟨1, 1, 2, false, false, false, false, 0, 0, false, 1⟩, ⟨2, 1, 4, true, true, false, true, 10, 0, true, 1⟩] : List Tk) = 1 from by decide, show stlT 14 ([⟨1, 1, 2, false, false, false, false, 0, 0, false, 1⟩, ⟨2, 1, 4, true, true, false, true, 10, 0, true, 1⟩] : List Tk) = [⟨1, 1, 2, false, false, false, false, 0, 0, false, 1⟩] from by decide] at C
      go_wp2_with fail
      refine C.out.mono ?_
      rintro e w27 ⟨uh, rfl, F27, rh, h27, s27, nfh⟩
      have Rh := Lib.hid rh
      have NFh := Lib.hid nfh
      have SVh27 := Lib.hid (Ca.Sv.refl F27 w27)
      obtain ⟨xh, ch, rfl⟩ := rowI_form rh
      clear rh nfh
      simp only [List.length_nil, List.length_cons, Nat.zero_add] at *
      have SVr27 := Lib.hid (SVr26.out.trans s27)
      have SVg27 := Lib.hid (SVg26.out.trans s27)
      have SVa27 := Lib.hid (SVa26.out.trans s27)
      have H27 := Lib.hid h27
      clear h27 s27 H26 SVr26 SVg26 SVa26
      clear C
      have C := Lib.hid (jw_task H27.out 2 (by decide))
      unfold TkQ at C
      rw [show getT ([⟨1, 1, 2, false, false, false, false, 0, 0, false, 1⟩] : List Tk) 2 = none from by decide] at C
      simp only [Option.getD_none, Option.isSome_none, aggT, zeroT] at C
      go_wp2_with fail
      refine C.out.mono ?_
      rintro e v28 ⟨rfl, g28⟩
      have G28 := Lib.hid g28
      clear g28 C
      go_upto_region 25 with fail
      obtain ⟨w28, hW⟩ : ∃ W, W = v28.alloc (.cells #[.int .i64 0, .int .i64 0, .int .i64 0, .bool false, .bool false, .bool false, .bool false, .int .i64 0, .int .i64 0, .bool false, .int .i64 0] 49) := ⟨_, rfl⟩
      obtain ⟨bz, hb⟩ : ∃ b, b = v28.heap.size := ⟨_, rfl⟩
      have gW : Gr w27 w28 := by rw [hW]; exact G28.out.alloc _
      have NBz := Lib.hid (jw_out H27.out (b := bz) (by rw [hb]; exact G28.out.size))
      have SVz28 := Lib.hid (Ca.Sv.refl F27 w28)
      have h28 := H27.out.gro gW
      have s28 : Sv F27 F27 w27 w28 := Ca.Sv.of_gr gW
      rw [← hW, ← hb]
      clear hW hb gW 
      have SVr28 := Lib.hid (SVr27.out.trans s28)
      have SVg28 := Lib.hid (SVg27.out.trans s28)
      have SVa28 := Lib.hid (SVa27.out.trans s28)
      have SVh28 := Lib.hid (SVh27.out.trans s28)
      have H28 := Lib.hid h28
      clear h28 s28 H27 SVr27 SVg27 SVa27 SVh27
      skip
      have C := Lib.hid (jw_leave H28.out 1 (by decide))
      rw [show lvB ([⟨1, 1, 2, false, false, false, false, 0, 0, false, 1⟩] : List Tk) 1 = true from by decide, show lvE ([⟨1, 1, 2, false, false, false, false, 0, 0, false, 1⟩] : List Tk) 1 = 0 from by decide, show lvS ([⟨1, 1, 2, false, false, false, false, 0, 0, false, 1⟩] : List Tk) 1 = [] from by decide] at C
      go_wp2_with fail
      refine C.out.mono ?_
      rintro e w29 ⟨rfl, F29, h29, s29⟩
      have SVr29 := Lib.hid (SVr28.out.trans s29)
      have SVg29 := Lib.hid (SVg28.out.trans s29)
      have SVa29 := Lib.hid (SVa28.out.trans s29)
      have SVh29 := Lib.hid (SVh28.out.trans s29)
      have SVz29 := Lib.hid (SVz28.out.trans s29)
      have H29 := Lib.hid h29
      clear h29 s29 H28 SVr28 SVg28 SVa28 SVh28 SVz28
      clear C
      have C := Lib.hid (jw_leave H29.out 1 (by decide))
      rw [show lvB ([] : List Tk) 1 = false from by decide, show lvE ([] : List Tk) 1 = 5 from by decide, show lvS ([] : List Tk) 1 = [] from by decide] at C
      go_wp2_with fail
      refine C.out.mono ?_
      rintro e w30 ⟨rfl, F30, h30, s30⟩
      have SVr30 := Lib.hid (SVr29.out.trans s30)
      have SVg30 := Lib.hid (SVg29.out.trans s30)
      have SVa30 := Lib.hid (SVa29.out.trans s30)
      have SVh30 := Lib.hid (SVh29.out.trans s30)
      have SVz30 := Lib.hid (SVz29.out.trans s30)
      have H30 := Lib.hid h30
      clear h30 s30 H29 SVr29 SVg29 SVa29 SVh29 SVz29
      clear C
      have rr := rowI_keep Rr.out SVr30.out.ke NFr.out
      have rh := rowI_keep Rh.out SVh30.out.ke NFh.out
      have a6 := sv_cell SVa30.out Ka6.out NBa.out
      have a10 := sv_cell SVa30.out Ka10.out NBa.out
      have a8 := sv_cell SVa30.out Ka8.out NBa.out
      have lit := rowI_lit w30 [1, 2] #[.int .i64 1, .int .i64 2] rfl (by decide)
      have IN := Lib.hid (ints_any (rowI_gr rr ((Ke.refl _ w30).alloc _)) lit)
      rw [show decide (([1, 2] : List Int) = [1, 2]) = true from rfl] at IN
      have RH := Lib.hid rh
      clear lit rr rh
      simp only [List.length_nil, List.length_cons, Nat.zero_add, Nat.reduceAdd] at *
      have d6 := Ca.gcell ((Ke.refl _ w30).alloc (.cells #[.int .i64 1, .int .i64 2] 3)) a6
      have d10 := Ca.gcell ((Ke.refl _ w30).alloc (.cells #[.int .i64 1, .int .i64 2] 3)) a10
      have d8 := Ca.gcell ((Ke.refl _ w30).alloc (.cells #[.int .i64 1, .int .i64 2] 3)) a8
      clear a6 a10 a8
      go_wp2_with fail
      refine IN.out.mono ?_
      rintro e v1 ⟨rfl, g1⟩
      have e6 := Ca.gcell g1 d6
      have e10 := Ca.gcell g1 d10
      have e8 := Ca.gcell g1 d8
      have gg := ((Ke.refl (fun _ => False) w30).alloc (.cells #[.int .i64 1, .int .i64 2] 3)).trans g1
      have lit := rowI_lit v1 [2] #[.int .i64 2] rfl (by decide)
      have IN2 := Lib.hid (ints_any (rowI_gr (rowI_gr RH.out gg) ((Ke.refl _ v1).alloc _)) lit)
      rw [show decide (([2] : List Int) = [2]) = true from rfl] at IN2
      have GG := Lib.hid gg
      clear lit gg g1 IN d6 d10 d8 RH
      simp only [List.length_nil, List.length_cons, Nat.zero_add] at *
      go_wp2_with fail
      refine IN2.out.mono ?_
      rintro e v2 ⟨rfl, g2⟩
      have G2 := Lib.hid g2
      clear g2 IN2
      go_wp2_with fail
      go_ret
      exact ⟨rfl, (H30.out.gr.trans GG.out).trans (((Ke.refl _ v1).alloc _).trans G2.out)⟩
end Go.Proofs.YtlpjojegdnconaaDoor
