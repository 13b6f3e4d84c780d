/- Contract of makeTables. -/
import Derived.Test.YtldogmifealkkaaA3
import Derived.LoopTactic
import Derived.StringKeys
import Derived.WalkArith
import Derived.Deep.DeepCutAuto
import Derived.Deep.CutBlock
namespace Go.Proofs.Ytldogmifealkkaa
open Go.RowKit Go.Lib Go.Maps
set_option linter.unusedVariables false

theorem opW_small (j : Nat) : (opW j).size ≤ maxLen := by
  unfold opW maxLen
  split <;> decide
theorem mt_start (w : World) : MT w ((((((w.alloc (.cells #[.slice none 0 0, .slice none 0 0, .slice none 0 0, .map none] 51)).alloc wordsO).alloc (.cells #[.string (moW 0), .string (moW 1), .string (moW 2), .string (moW 3), .string (moW 4)] 9)).alloc (.map #[] 0)).alloc (.cells #[.slice (some ⟨w.heap.size + 1, 0, none⟩) 9 9, .slice (some ⟨w.heap.size + 2, 0, none⟩) 5 5, .slice none 0 0, .map (some (w.heap.size + 3))] 51))) w.heap.size (.slice none 0 0) 0 0 := by
  refine ⟨(((((Ke.refl _ w).alloc _).alloc _).alloc _).alloc _).alloc _, rfl, fun o ho => ?_, fun o => by simp [go_sem], by simp [go_sem], by simp [go_sem], by simp [go_sem], by simp [go_sem], fun o => by simp [go_sem], fun j hj => ?_, fun j hj => ?_, ⟨by simp, .inl ⟨rfl, rfl⟩⟩, .map [], ?_, MapN.start⟩
  · rcases (show o = 0 ∨ o = 1 ∨ o = 2 ∨ o = 3 by omega) with rfl | rfl | rfl | rfl <;> simp [go_sem]
  · rcases (show j = 0 ∨ j = 1 ∨ j = 2 ∨ j = 3 ∨ j = 4 ∨ j = 5 ∨ j = 6 ∨ j = 7 ∨ j = 8 by omega) with rfl | rfl | rfl | rfl | rfl | rfl | rfl | rfl | rfl <;> simp [go_sem]
  · rcases (show j = 0 ∨ j = 1 ∨ j = 2 ∨ j = 3 ∨ j = 4 by omega) with rfl | rfl | rfl | rfl | rfl <;> simp [go_sem]
  · have o := fun (w3 : World) (x : Obj) (e : w3.heap.size = w.heap.size + 3) => (e ▸ (World.ownsMap_made (H := Unit) w3 Try.prog 9 (plainElem Try.prog 3)) : (w3.alloc (.map #[] 0)).ownsMap Try.prog 9 (plainElem Try.prog 3) (w.heap.size + 3) 0 (.map [])).alloc x
    exact o _ _ (by simp)


/-- The result's box is filled. -/
theorem MT.boxed {w W : World} {s k m : Nat} {ve : Value} (h : MT w W s ve k m) (a b c d : Value) : MT w ((((W.setCell ⟨s, 0, none⟩ a).setCell ⟨s, 1, none⟩ b).setCell ⟨s, 2, none⟩ c).setCell ⟨s, 3, none⟩ d) s ve k m := by
  have one : ∀ (W : World) (o : Nat) (v : Value), MT w W s ve k m → MT w (W.setCell ⟨s, o, none⟩ v) s ve k m := fun W o v h => by
    have hs : w.heap.size ≤ s := by rw [h.se]; omega
    have bo : ∀ g, g ≠ s → (W.setCell ⟨s, o, none⟩ v).heap[g]? = W.heap[g]? := fun g hg => Below.heap_setCell _ _ _ _ (fun e => hg (by simpa using e))
    have e5 : ∀ g, ve.ownBlock = some g → s + 5 ≤ g := fun g hg => (h.er.lt hg).1
    obtain ⟨D, o', n⟩ := h.mp
    have b4 := bo (s + 4) (by omega)
    exact ⟨h.gr.set (.inr hs) _, h.se, fun i hi => by
        obtain ⟨x, hx⟩ := h.r i hi
        by_cases e : i = o
        · subst e; exact ⟨v, World.cell?_setCell_same _ _ _ hx⟩
        · exact ⟨x, (World.cell?_setCell_other _ _ _ _ (by simp)).trans hx⟩, fun i => by rw [World.frozen?_setCell]; exact h.fr i,
      (World.cell?_of_block b4).trans h.t0, (World.cell?_of_block b4).trans h.t1, (World.cell?_of_block b4).trans h.t2, (World.cell?_of_block b4).trans h.t3, fun i => (World.frozen?_of_block (a := ⟨s + 4, i, none⟩) b4).trans (h.ft i),
      h.op.keep (bo _ (by omega)), h.mo.keep (bo _ (by omega)), h.er.keep (fun g hg => bo g (by have := e5 g hg; omega)), D, own_keep o' (bo _ (by omega)), n⟩
  exact one _ _ _ (one _ _ _ (one _ _ _ (one _ _ _ h)))

def Aside (p : Prop) : Prop := p
theorem Aside.out {p : Prop} (h : Aside p) : p := h

set_option maxRecDepth 100000 in
set_option maxHeartbeats 2000000 in
theorem tables_any (w : World) : Calls Try.prog 22 #[] w fun x w' => ∃ ve, x = .returned (.agg #[.slice (some ⟨w.heap.size + 1, 0, none⟩) 9 9, .slice (some ⟨w.heap.size + 2, 0, none⟩) 5 5, ve, .map (some (w.heap.size + 3))]) ∧ MT w w' w.heap.size ve 15 8 := by
  have hmm := @run_makeMap Try.prog
  have M0 := Lib.hid (mt_start w)
  go_enter Try.func22, Try.ntmps22
  go_wp2_with fail
  generalize hB : w.heap.size + 1 + 1 + 1 + 1 = B
  go_loopg [2] 15 (fun kx s2 wr => ∃ (k : Nat) (ve : Value), s2 = .int .i64 k ∧ k ≤ 15 ∧ 15 - k ≤ kx ∧ Aside (MT w wr w.heap.size ve k 0))
  case atStart => exact ⟨0, _, rfl, by omega, by omega, M0.out⟩
  case round =>
    clear M0
    obtain ⟨k, ve, rfl, hk, hkx, D⟩ := hrel
    have HB := Lib.hid hB
    clear hB
    by_cases hlt : k < 15
    · have d0 : decide ((k : Int) ≤ 14) = true := by simp; omega
      have d1 : (k : Int) ≤ 14 := by omega
      have CE : Hid (∀ W, Calls Try.prog 15 #[.int .i64 k] W fun x w' => x = .returned (.string (erW k)) ∧ w' = W) := fun W => by
        have := error_any (k : Int) W
        rw [atW_in (by omega)] at this
        exact this
      have t2 : wr.cell? ⟨B, 2, none⟩ = some ve := by rw [← HB.out]; exact D.out.t2
      have f2 : wr.frozen? ⟨B, 2, none⟩ = false := by rw [← HB.out]; exact D.out.ft 2
      have t2a : (wr.alloc (.cells #[.string (erW k)] 9)).cell? ⟨B, 2, none⟩ = some ve := kcell ((Ke.refl _ wr).alloc _) t2
      have l4 := D.out.lt
      have D1 := D.out.gro (((Ke.refl _ wr).alloc (.cells #[.string (erW k)] 9)).drew)
      obtain ⟨v', w1, hr, ap⟩ := app_word _ (w.heap.size + 5) erW ve k D1.er (by simp; omega) (by omega) ⟨wr.heap.size, 0, none⟩ (by simp [go_sem])
      obtain ⟨g, cap, rfl, _, _, _, _⟩ := ap.row.form (by omega)
      have HR := Lib.hid hr
      have t2' : w1.cell? ⟨B, 2, none⟩ = some ve := by
        rw [← HB.out]
        refine (World.cell?_of_block (ap.gr.block (w.heap.size + 4) (by simp; omega) (fun q => ?_))).trans D1.t2
        have := (D1.er.lt q.symm).1
        omega
      have f2' : w1.frozen? ⟨B, 2, none⟩ = false := by
        rw [← HB.out]
        refine (World.frozen?_of_block (a := ⟨w.heap.size + 4, 2, none⟩) (ap.gr.block (w.heap.size + 4) (by simp; omega) (fun q => ?_))).trans (D1.ft 2)
        have := (D1.er.lt q.symm).1
        omega
      have DN : Hid (MT w (w1.setCell ⟨B, 2, none⟩ (.slice (some ⟨g, 0, none⟩) (k + 1) cap)) w.heap.size (.slice (some ⟨g, 0, none⟩) (k + 1) cap) (k + 1) 0) := by
        have := D1.more ap
        rw [← HB.out]
        exact this
      clear hr ap D1 l4 D
      go_upto_region 5 with fail
      go_region_law (first | (go_simp; refine (CE.out _).mono ?_; rintro e w5 ⟨rfl, hw⟩; obtain rfl := hw; dsimp only) | refine step_append_run rfl (.tmp 13) (.tmp 16) 26 rfl _ _ rfl rfl _ _ HR.out ?_)
      all_goals
        go_wp2_with fail
        go_roundg (15 - (k + 1))
        case measure => omega
        case rel => exact ⟨k + 1, _, by go_num, by omega, by omega, DN.out⟩
    · obtain rfl : k = 15 := by omega
      go_wp2_with fail
      go_loopg [3] 8 (fun kx s3 wr => ∃ (k : Nat), s3 = .int .i64 ((k + 1 : Nat) : Int) ∧ k ≤ 8 ∧ 8 - k ≤ kx ∧ Aside (MT w wr w.heap.size ve 15 k))
      case atStart => exact ⟨0, rfl, by omega, by omega, D.out⟩
      case round =>
        clear D
        obtain ⟨k, rfl, hk, hkx, D⟩ := hrel
        by_cases hlt : k < 8
        · have d0 : decide (((k + 1 : Nat) : Int) ≤ 8) = true := by simp; omega
          have d1 : ((k + 1 : Nat) : Int) ≤ 8 := by omega
          obtain ⟨Dm, own, mn⟩ := D.out.mp
          have OW := Lib.hid own
          have MN := Lib.hid mn
          have TI := Lib.hid own.isMap
          have DD := Lib.hid D
          obtain ⟨B1, hB1⟩ : ∃ B1, w.heap.size + 1 = B1 := ⟨_, rfl⟩
          obtain ⟨B3, hB3⟩ : ∃ B3, w.heap.size + 3 = B3 := ⟨_, rfl⟩
          obtain ⟨k1, hk1⟩ : ∃ k1, k + 1 = k1 := ⟨_, rfl⟩
          obtain ⟨wd, hwd⟩ : ∃ wd, opW k1 = wd := ⟨_, rfl⟩
          have t0 : wr.cell? ⟨B, 0, none⟩ = some (.slice (some ⟨B1, 0, none⟩) 9 9) := by rw [← HB.out, ← hB1]; exact D.out.t0
          have t3 : wr.cell? ⟨B, 3, none⟩ = some (.map (some B3)) := by rw [← HB.out, ← hB3]; exact D.out.t3
          have cw : wr.cell? ⟨B1, k1, none⟩ = some (.string wd) := by rw [← hB1, ← hwd]; exact D.out.op k1 (by omega)
          have KEY : Hid (keyOf Try.prog 9 (.string wd) = some (.string wd.data.toList)) := Go.WideMaps.keyOf_string_mk Try.underlying9 (by rw [← hwd]; exact opW_small k1)
          have b0 : (0 : Int) ≤ (k1 : Int) ∧ (k1 : Int) < (9 : Int) := by omega
          rw [hk1] at d0 d1 ⊢
          have HB1 := Lib.hid hB1
          have HB3 := Lib.hid hB3
          have HK1 := Lib.hid hk1
          have HWD := Lib.hid hwd
          clear own mn D hB1 hB3 hk1 hwd
          go_upto_region 9 with fail
          go_still_tail 8, (by kernel_rfl)
          change wpList _ _ _ _ _ wr.drew
          have hmx : k < maxLen := by unfold maxLen; omega
          have OX : Hid (wr.drew.ownsMap Try.prog 9 (plainElem Try.prog 3) B3 k Dm) := by rw [← HB3.out]; exact OW.out.drew
          go_wp2_with (at_mapUpdate; refine wpList_mapUpdate_in _ rfl _ _ _ 49 rfl 9 3 law9 Try.underlying49 _ B3 k Dm rfl OX.out hmx _ _ _ rfl rfl KEY.out _ [] (plainElem_int Try.underlying3 (WalkArith.wf_i64 (by omega))) ?_; intro w5 own5 turn5; have OW5 := Lib.hid own5; have TU5 := Lib.hid turn5; clear own5 turn5)
          go_roundg (8 - (k + 1))
          case measure => omega
          case rel =>
            refine ⟨k + 1, by have := HK1.out; subst this; go_num, by omega, by omega, ?_⟩
            have M := (Aside.out DD.out).gro ((Ke.refl _ wr).drew)
            have o5 := OW5.out
            have t5 := TU5.out
            rw [← HB3.out] at o5 t5
            rw [← HWD.out, ← HK1.out] at o5
            exact M.num hlt MN.out TI.out t5 o5
        · obtain rfl : k = 8 := by omega
          have M := D.out
          have t0 : wr.cell? ⟨B, 0, none⟩ = some (.slice (some ⟨w.heap.size + 1, 0, none⟩) 9 9) := by rw [← HB.out]; exact M.t0
          have t1 : wr.cell? ⟨B, 1, none⟩ = some (.slice (some ⟨w.heap.size + 2, 0, none⟩) 5 5) := by rw [← HB.out]; exact M.t1
          have t2 : wr.cell? ⟨B, 2, none⟩ = some ve := by rw [← HB.out]; exact M.t2
          have t3 : wr.cell? ⟨B, 3, none⟩ = some (.map (some (w.heap.size + 3))) := by rw [← HB.out]; exact M.t3
          obtain ⟨x0, r0⟩ := M.r 0 (by omega)
          obtain ⟨x1, r1⟩ := M.r 1 (by omega)
          obtain ⟨x2, r2⟩ := M.r 2 (by omega)
          obtain ⟨x3, r3⟩ := M.r 3 (by omega)
          have f0 := M.fr 0
          have f1 := M.fr 1
          have f2 := M.fr 2
          have f3 := M.fr 3
          have hv := M.er.form (by omega)
          obtain ⟨g, cap, rfl, _, _, _, _⟩ := hv
          have MM := Lib.hid M
          clear M
          go_wp2_with fail
          refine bodyPost_ret (v := .agg #[.slice (some ⟨w.heap.size + 1, 0, none⟩) 9 9, .slice (some ⟨w.heap.size + 2, 0, none⟩) 5 5, .slice (some ⟨g, 0, none⟩) 15 cap, .map (some (w.heap.size + 3))]) (by simp [results, Try.results22, go_sem, r0, r1, r2, r3]) rfl ⟨_, rfl, ?_⟩
          exact MM.out.boxed _ _ _ _
end Go.Proofs.Ytldogmifealkkaa
