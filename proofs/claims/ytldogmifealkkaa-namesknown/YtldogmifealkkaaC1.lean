/- Two Names beside each other; NamesKnown, walked. -/
import Derived.Test.YtldogmifealkkaaB2
namespace Go.Proofs.Ytldogmifealkkaa
open Go.RowKit Go.Lib Go.Maps
set_option linter.unusedVariables false

structure AB (w0 w : World) (pa pb : Nat) (ma mb : Bool) : Prop where
  a : NM w pa (pb + 1) ma
  b : NM w pb (pb + 1) mb
  ne : pa < pb
  gr : Gr w0 w
  lo : w0.heap.size ≤ pa
section
variable {w0 w w' : World} {pa pb : Nat} {ma mb : Bool}
theorem AB.gro (h : AB w0 w pa pb ma mb) (g : Gr w w') : AB w0 w' pa pb ma mb := ⟨h.a.keep g (fun _ q => q.elim), h.b.keep g (fun _ q => q.elim), h.ne, h.gr.trans g, h.lo⟩
theorem AB.stepA (h : AB w0 w pa pb ma mb) (D : DoneP w w' pa (pb + 1)) : AB w0 w' pa pb true mb :=
  ⟨D.2, h.b.keep D.1 (fun j q => by have := h.ne; omega), h.ne, h.gr.after D.1 (fun j q => by have := h.lo; omega), h.lo⟩
theorem AB.stepB (h : AB w0 w pa pb ma mb) (D : DoneP w w' pb (pb + 1)) : AB w0 w' pa pb ma true :=
  ⟨h.a.keep D.1 (fun j q => by have := h.ne; omega), D.2, h.ne, h.gr.after D.1 (fun j q => by have := h.lo; have := h.ne; omega), h.lo⟩
end

theorem words_at {w : World} {B : Nat} (h : Wd w B 9 opW) (i : Nat) (hi : i < 9) : w.cell? ⟨B, i, none⟩ = some (.string (opW i)) := h i hi

theorem num0 : numW sNone = 0 := by decide
theorem er99 : atW erW 15 99 sErr = sErr := by decide
theorem op0 : atW opW 9 0 sNone = sNone := by decide
theorem op9 : atW opW 9 9 sNone = sNone := by decide
theorem opm : atW opW 9 (-1) sNone = sNone := by decide
theorem er0 : atW erW 15 0 sErr = ⟨#[111, 107]⟩ := by decide
theorem erm : atW erW 15 (-3) sErr = sErr := by decide
abbrev mo6O : Obj := .cells #[.string ⟨#[]⟩, .string ⟨#[112, 102, 97, 105, 114]⟩, .string ⟨#[101, 97, 114, 108, 121]⟩, .string ⟨#[119, 114, 97, 112]⟩, .string ⟨#[116, 119, 105, 110]⟩, .string ⟨#[]⟩] 9
theorem mo6_wd (w : World) : Wd (w.alloc mo6O) w.heap.size 6 moW := fun j hj => by
  rcases (show j = 0 ∨ j = 1 ∨ j = 2 ∨ j = 3 ∨ j = 4 ∨ j = 5 by omega) with rfl | rfl | rfl | rfl | rfl | rfl <;> simp [go_sem] <;> rfl
theorem mo6_at {k : Nat} (h : k < 6) : atW moW 5 (k : Int) sNone = moW k := by
  rcases (show k = 0 ∨ k = 1 ∨ k = 2 ∨ k = 3 ∨ k = 4 ∨ k = 5 by omega) with rfl | rfl | rfl | rfl | rfl | rfl <;> decide

set_option maxRecDepth 100000 in
set_option maxHeartbeats 1600000 in
theorem known_walk (w : World) : Calls Try.prog 5 #[] w fun e w' => e = .returned (.bool true) ∧ Gr w w' := by
  have AW := Lib.hid (fun w => awake_any w)
  go_enter Try.func5, Try.ntmps5
  go_wp2_with fail
  refine (AW.out _).mono ?_
  rintro e w1 ⟨rfl, g1⟩
  have G1 := Lib.hid g1
  clear g1
  go_wp2_with fail
  refine (new_any w1).mono ?_
  rintro e w2 ⟨rfl, rfl⟩
  go_wp2_with fail
  refine (new_any _).mono ?_
  rintro e w3 ⟨rfl, rfl⟩
  have AB0 : Hid (∃ pa pb, w1.heap.size = pa ∧ (w1.alloc newO).heap.size = pb ∧ AB w ((w1.alloc newO).alloc newO) pa pb false false) := Lib.hid ⟨_, _, rfl, rfl, by
    have n2 := NM.new (w1.alloc newO)
    have g2 := (Ke.refl (fun _ => False) (w1.alloc newO)).alloc newO
    exact ⟨((NM.new w1).keep g2 (fun _ q => q.elim)).up (by simp) (by simp), n2, by simp, (G1.out.alloc _).alloc _, G1.out.size⟩⟩
  obtain ⟨pa, pb, ha, hb, H0⟩ := AB0.out
  rw [ha, hb]
  generalize (w1.alloc newO).alloc newO = w3 at *
  have H := Lib.hid H0
  clear AB0 ha hb H0 G1
  go_wp2_with fail
  go_loopg [3] 8 (fun kx s3 wr => ∃ (k : Nat) (m : Bool), s3 = .int .i64 ((k + 1 : Nat) : Int) ∧ k ≤ 8 ∧ 8 - k ≤ kx ∧ Aside (AB w wr pa pb m false))
  case atStart => exact ⟨0, false, rfl, by omega, by omega, H.out⟩
  case round =>
    clear H
    obtain ⟨k, m, rfl, hk, hkx, D⟩ := hrel
    by_cases hlt : k < 8
    · obtain ⟨k1, hk1⟩ : ∃ k1, k + 1 = k1 := ⟨_, rfl⟩
      obtain ⟨wd, hwd⟩ : ∃ wd, opW k1 = wd := ⟨_, rfl⟩
      have d0 : decide ((k1 : Int) ≤ 8) = true := by simp; omega
      have d1 : (k1 : Int) ≤ 8 := by omega
      have b0 : (0 : Int) ≤ (k1 : Int) ∧ (k1 : Int) < (9 : Int) := by omega
      have OW : Hid (atW opW 9 (k1 : Int) sNone = wd) := Lib.hid (by rw [atW_in (by omega)]; exact hwd)
      have NW : Hid (numW wd = k1) := Lib.hid (by rw [← hwd]; exact numW_op (by omega) (by omega))
      have SW : Hid (wd.size ≤ maxLen) := Lib.hid (by rw [← hwd]; exact opW_small k1)
      have WD := Lib.hid hwd
      have K1 := Lib.hid hk1
      have u1 : decide (0 < k1) = true := by simp; omega
      have HD := Lib.hid D
      rw [hk1]
      clear D hwd hk1
      go_wp2_with fail
      refine (op_any HD.out.out.a k1).mono ?_
      rw [OW.out]
      rintro e w4 ⟨rfl, D⟩
      have H4 := Lib.hid (HD.out.out.stepA D)
      clear D HD
      go_wp2_with fail
      refine (number_any H4.out.a wd SW.out).mono ?_
      rw [NW.out]
      rintro e w5 ⟨rfl, D⟩
      have H5 := Lib.hid (H4.out.stepA D)
      clear D H4
      go_wp2_with fail
      refine (op_any H5.out.a k1).mono ?_
      rw [OW.out]
      rintro e w6 ⟨rfl, D⟩
      have H6 := Lib.hid (H5.out.stepA D)
      clear D H5
      go_wp2_with fail
      refine (words_any w6).mono ?_
      rintro e w7 ⟨rfl, rfl⟩
      have H7 := Lib.hid (H6.out.gro ((Ke.refl _ w6).alloc wordsO))
      obtain ⟨B, hB⟩ : ∃ B, w6.heap.size = B := ⟨_, rfl⟩
      have cw : (w6.alloc wordsO).cell? ⟨B, k1, none⟩ = some (.string wd) := by rw [← hB, ← WD.out]; exact words_at (words_wd w6) k1 (by omega)
      rw [hB]
      clear hB H6
      generalize w6.alloc wordsO = w7 at *
      go_wp2_with fail
      go_roundg (8 - (k + 1))
      case measure => omega
      case rel => exact ⟨k + 1, true, by have := K1.out; subst this; go_num, by omega, by omega, H7.out⟩
    · obtain rfl : k = 8 := by omega
      have H := Lib.hid D
      clear D
      go_wp2_with fail
      have A6 : Hid (∃ M, wr.heap.size = M ∧ pb < M ∧ Wd (wr.alloc mo6O) M 6 moW ∧ AB w (wr.alloc mo6O) pa pb m false) := Lib.hid ⟨_, rfl, by have := H.out.out.b.2.1; omega, mo6_wd wr, H.out.out.gro ((Ke.refl _ wr).alloc _)⟩
      clear H
      obtain ⟨M, hM, hpM, WM, H0⟩ := A6.out
      rw [hM]
      have HP := Lib.hid hpM
      have H6 := Lib.hid H0
      have W6 := Lib.hid WM
      clear A6 hM hpM WM H0
      generalize wr.alloc mo6O = w8 at *
      go_loopg [7] 6 (fun kx s7 wr => ∃ (k : Nat) (m : Bool), s7 = .int .i64 (k : Int) ∧ k ≤ 6 ∧ 6 - k ≤ kx ∧ Aside (AB w wr pa pb m false ∧ Wd wr M 6 moW))
      case atStart => exact ⟨0, m, rfl, by omega, by omega, H6.out, W6.out⟩
      case round =>
        clear H6 W6
        obtain ⟨k, m, rfl, hk, hkx, D⟩ := hrel
        by_cases hlt : k < 6
        · obtain ⟨wd, hwd⟩ : ∃ wd, moW k = wd := ⟨_, rfl⟩
          have d0 : decide ((k : Int) < 6) = true := by simp; omega
          have d1 : (k : Int) < 6 := by omega
          have b0 : (0 : Int) ≤ (k : Int) ∧ (k : Int) < (6 : Int) := by omega
          have MW : Hid (atW moW 5 (k : Int) sNone = wd) := Lib.hid (by rw [← hwd]; exact mo6_at hlt)
          have cw : wr.drew.cell? ⟨M, k, none⟩ = some (.string wd) := by rw [← hwd]; exact D.out.2 k hlt
          have HD := Lib.hid D
          have CM : Hid (∀ W, W = wr.drew → Calls Try.prog 13 #[.pointer (some ⟨pa, 0, none⟩), .int .i64 k] W fun e w' => e = .returned (.string wd) ∧ w'.cell? ⟨M, k, none⟩ = some (.string wd) ∧ Hid (AB w w' pa pb true false ∧ Wd w' M 6 moW)) := Lib.hid (fun W hW => by
            subst hW
            have g : Gr wr wr.drew := (Ke.refl _ wr).drew
            refine (mode_any (HD.out.out.1.gro g).a k).mono ?_
            rw [MW.out]
            rintro e w' ⟨rfl, D⟩
            have l := (HD.out.out.2.gr (HD.out.out.2.lt (by omega)) g).lt (by omega)
            have k6 : w'.heap[M]? = wr.drew.heap[M]? := D.1.block M l (fun q => by have := HP.out; have := HD.out.out.1.ne; omega)
            exact ⟨rfl, (World.cell?_of_block (a := ⟨M, k, none⟩) k6).trans cw, Lib.hid ⟨(HD.out.out.1.gro g).stepA D, (HD.out.out.2.gr (HD.out.out.2.lt (by omega)) g).keep k6⟩⟩)
          clear D hwd HD
          go_upto_region 16 with fail
          go_region_law (go_simp; refine (CM.out _ rfl).mono ?_; rintro e w9 ⟨rfl, c9, H9⟩; dsimp only)
          all_goals
            go_wp2_with fail
            go_roundg (6 - (k + 1))
            case measure => omega
            case rel => exact ⟨k + 1, true, by go_num, by omega, by omega, H9.out⟩
        · obtain rfl : k = 6 := by omega
          have H := Lib.hid D.out.1
          clear D
          go_wp2_with fail
          refine (number_any H.out.a sNone (by decide)).mono ?_
          rw [num0]
          rintro e x1 ⟨rfl, D⟩
          have H1 := Lib.hid (H.out.stepA D)
          clear D H
          go_wp2_with fail
          refine (made1 H1.out.a).mono ?_
          rintro e x2 ⟨rfl, rfl⟩
          go_wp2_with fail
          refine (made0 H1.out.b).mono ?_
          rintro e x3 ⟨rfl, rfl⟩
          go_wp2_with fail
          refine (err_any H1.out.b 99).mono ?_
          rw [er99]
          rintro e x4 ⟨rfl, D⟩
          have H4 := Lib.hid (H1.out.stepB D)
          clear D H1
          go_wp2_with fail
          refine (made1 H4.out.b).mono ?_
          rintro e x5 ⟨rfl, rfl⟩
          go_wp2_with fail
          refine (op_any H4.out.a 0).mono ?_
          rw [op0]
          rintro e x6 ⟨rfl, D⟩
          have H6 := Lib.hid (H4.out.stepA D)
          clear D H4
          go_wp2_with fail
          refine (op_any H6.out.a 9).mono ?_
          rw [op9]
          rintro e x7 ⟨rfl, D⟩
          have H7 := Lib.hid (H6.out.stepA D)
          clear D H6
          go_wp2_with fail
          refine (op_any H7.out.a (-1)).mono ?_
          rw [opm]
          rintro e x8 ⟨rfl, D⟩
          have H8 := Lib.hid (H7.out.stepA D)
          clear D H7
          go_wp2_with fail
          refine (err_any H8.out.a 0).mono ?_
          rw [er0]
          rintro e x9 ⟨rfl, D⟩
          have H9 := Lib.hid (H8.out.stepA D)
          clear D H8
          go_wp2_with fail
          refine (err_any H9.out.a (-3)).mono ?_
          rw [erm]
          rintro e x10 ⟨rfl, D⟩
          have H10 := Lib.hid (H9.out.stepA D)
          clear D H9
          go_wp2
          go_ret
          exact ⟨rfl, H10.out.gr⟩
end Go.Proofs.Ytldogmifealkkaa
