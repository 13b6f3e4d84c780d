/- The ledger: Add to one that has no maps yet; Add in all. -/
import Derived.Test.YtbimaaknjedonaaA6
namespace Go.Proofs.Ytbimaaknjedonaa
open Go.RowKit Go.Lib Go.Maps
set_option linter.unusedVariables false

/-- The world where the maps have just been made. -/
abbrev madeW (w2 : World) (l : Nat) (r0 r1 r2 : Int) : World :=
  ((((w2.alloc (.cells #[.int .i64 r0, .int .i64 r1, .int .i64 r2] 54)).alloc (.map #[] 0)).alloc (.map #[] 0)).setCell ⟨l, 1, none⟩ (.map (some (w2.heap.size + 1)))).setCell ⟨l, 2, none⟩ (.map (some (w2.heap.size + 1 + 1)))
theorem made_facts {w2 : World} {l : Nat} {c s0 s1 s2 : Int} (r0 r1 r2 : Int) (h : LM w2 l (.map none) (.map none) c s0 s1 s2) :
    AM (madeW w2 l r0 r1 r2) l (w2.heap.size + 1) (w2.heap.size + 1 + 1) w2.heap.size c s0 s1 s2 r0 r1 r2 ∧ (madeW w2 l r0 r1 r2).ownsMap Try.prog 3 tkElem (w2.heap.size + 1) (Maps.size (.map [] : DataW Unit)) (.map [] : DataW Unit) ∧ (madeW w2 l r0 r1 r2).ownsMap Try.prog 3 (plainElem Try.prog 3) (w2.heap.size + 1 + 1) (Maps.size (.map [] : DataW Unit)) (.map [] : DataW Unit) ∧ Ke (fun g => g = l) w2 (madeW w2 l r0 r1 r2) := by
  have hp := h.lt
  have K : Ke (fun g => g = l) w2 (((w2.alloc (.cells #[.int .i64 r0, .int .i64 r1, .int .i64 r2] 54)).alloc (.map #[] 0)).alloc (.map #[] 0)) := (((Ke.refl _ w2).alloc _).alloc _).alloc _
  have K0 : Gr w2 (((w2.alloc (.cells #[.int .i64 r0, .int .i64 r1, .int .i64 r2] 54)).alloc (.map #[] 0)).alloc (.map #[] 0)) := (((Ke.refl _ w2).alloc _).alloc _).alloc _
  have lm := h.keep (K0.block l hp (fun f => f))
  have o1 := (World.ownsMap_made (H := Unit) (w2.alloc (.cells #[.int .i64 r0, .int .i64 r1, .int .i64 r2] 54)) Try.prog 3 tkElem).alloc (.map #[] 0)
  have o2 := (World.ownsMap_made (H := Unit) ((w2.alloc (.cells #[.int .i64 r0, .int .i64 r1, .int .i64 r2] 54)).alloc (.map #[] 0)) Try.prog 3 (plainElem Try.prog 3))
  have e1 : (w2.alloc (.cells #[.int .i64 r0, .int .i64 r1, .int .i64 r2] 54)).heap.size = w2.heap.size + 1 := by simp
  have e2 : ((w2.alloc (.cells #[.int .i64 r0, .int .i64 r1, .int .i64 r2] 54)).alloc (.map #[] 0)).heap.size = w2.heap.size + 1 + 1 := by simp
  rw [e1] at o1
  rw [e2] at o2
  have G2 : Gr (w2.alloc (.cells #[.int .i64 r0, .int .i64 r1, .int .i64 r2] 54)) (((w2.alloc (.cells #[.int .i64 r0, .int .i64 r1, .int .i64 r2] 54)).alloc (.map #[] 0)).alloc (.map #[] 0)) := ((Ke.refl _ _).alloc _).alloc _
  have B0 := kcell G2 (a := ⟨w2.heap.size, 0, none⟩) (v := .int .i64 r0) (by simp [go_sem])
  have B1 := kcell G2 (a := ⟨w2.heap.size, 1, none⟩) (v := .int .i64 r1) (by simp [go_sem])
  have B2 := kcell G2 (a := ⟨w2.heap.size, 2, none⟩) (v := .int .i64 r2) (by simp [go_sem])
  refine ⟨⟨⟨?_, ?_, ?_, ?_, ?_, ?_, ?_⟩, ?_, ?_, ?_⟩, (o1.setCell (by simp; omega) _).setCell (by simp; omega) _, (o2.setCell (by simp; omega) _).setCell (by simp; omega) _, (K.set (p := ⟨l, 1, none⟩) (.inl rfl) _).set (p := ⟨l, 2, none⟩) (.inl rfl) _⟩
  all_goals unfold madeW
  all_goals generalize (((w2.alloc (.cells #[.int .i64 r0, .int .i64 r1, .int .i64 r2] 54)).alloc (.map #[] 0)).alloc (.map #[] 0)) = W at *
  · simp [go_sem, lm.c0]
  · simp [go_sem, lm.c1]
  · simp [go_sem, lm.c2]
  · simp [go_sem, lm.c3]
  · simp [go_sem, lm.c4]
  · simp [go_sem, lm.c5]
  · exact fun o => by simpa using lm.fz o
  · rw [World.cell?_setCell_other _ _ _ _ (fun q => by cases q <;> omega), World.cell?_setCell_other _ _ _ _ (fun q => by cases q <;> omega)]; exact B0
  · rw [World.cell?_setCell_other _ _ _ _ (fun q => by cases q <;> omega), World.cell?_setCell_other _ _ _ _ (fun q => by cases q <;> omega)]; exact B1
  · rw [World.cell?_setCell_other _ _ _ _ (fun q => by cases q <;> omega), World.cell?_setCell_other _ _ _ _ (fun q => by cases q <;> omega)]; exact B2

set_option maxHeartbeats 2000000 in
theorem add_ok0 {w : World} {l : Nat} {c : Int} (h : Led0 w l c) (i e p : Int) (hi : (Lit.int .i64 i).wf = true) (hv : canV (cut c) [] e p = 0) :
    Calls Try.prog 10 #[.pointer (some ⟨l, 0, none⟩), .int .i64 i, .int .i64 e, .int .i64 p] w fun x w' => x = .returned (.int .i64 0) ∧ ∃ b1 b2, Led1 w' l b1 b2 c [⟨i, e, p⟩] ∧ Ke (fun g => g = l) w w' ∧ w.heap.size ≤ b1 ∧ w.heap.size ≤ b2 := by
  have hm : 1 ≤ e ∧ e ≤ p ∧ p ≤ 1048575 := Classical.byContradiction fun q => by rw [canV_arg q] at hv; omega
  have MB := Lib.hid (mayB_yes hm)
  obtain ⟨N, D, M, t⟩ := Tot.of (([] : List Wt) ++ [⟨0, e, p⟩])
  obtain ⟨r0, r1, r2, hr, hr'⟩ := res_of (cut c) hm t
  obtain ⟨rfl, rfl, rfl⟩ := hr' hv
  rw [hv] at hr
  have H : Hid (Led w (fun g => g = l) l (cut c) []) := ⟨c, rfl, .inl ⟨h, rfl, rfl⟩⟩
  have C := Lib.hid (fun (W : World) (H : Led W (fun g => g = l) l (cut c) []) => with_any H hm t hr)
  have T := Lib.hid (tot_id (j := i) t)
  have HV := Lib.hid hv
  have OK := Lib.hid H.out.ok
  obtain ⟨s0, s1, s2, a0⟩ := h
  have A0 := Lib.hid a0
  obtain ⟨D1, hD1⟩ : ∃ D1 : DataW Unit, D1 = .map [] := ⟨_, rfl⟩
  obtain ⟨D2, hD2⟩ : ∃ D2 : DataW Unit, D2 = .map [] := ⟨_, rfl⟩
  obtain ⟨q, HQ', HQ⟩ : ∃ q : Int, Hid (0 = q) ∧ Hid (D2.atKey (.int .i64 p) (.lit (.int .i64 0)) = .lit (.int .i64 q)) := ⟨_, rfl, by rw [hD2]; exact MapC.start.at_ p⟩
  have hq0 : 0 ≤ q := by have := HQ'.out; omega
  have hq1 : q ≤ 1073741824 := by have := HQ'.out; omega
  have HP : Hid ((Lit.int .i64 p).wf = true) := wf_small (by omega) (by omega)
  have HS1 : Hid (Maps.size D1 < maxLen) := by rw [hD1]; show 0 < _; unfold maxLen; omega
  have HS2 : Hid (Maps.size D2 < maxLen) := by rw [hD2]; show 0 < _; unfold maxLen; omega
  have c1 := a0.c1
  have hp := a0.lt
  have HL := fun w => Maps.look_nil (P := Try.prog) (w := w) (t := 51) true law3 Try.underlying51 (zero59 w) (keyOf_int_mk Try.underlying3 hi)
  simp only [if_true] at HL
  have q51 : ∀ (w : World) (r : Option Nat), (binOp .eql 51 (.map r) (.map none)).run Try.prog w = .ok (.bool r.isNone) w := fun w r => run_eql_map_nil w _ _ _ r Try.underlying51
  have hmm := @run_makeMap Try.prog
  have HD1 := Lib.hid hD1
  have HD2 := Lib.hid hD2
  clear t hr hr' hv hm a0 hD1 hD2
  go_enter Try.func10, Try.ntmps10
  go_wp2_with fail
  refine (may_any e p _).mono ?_
  rintro x w1 ⟨rfl, rfl⟩
  rw [MB.out]
  go_wp2_with fail
  refine (C.out _ (H.out.gr ((Ke.refl _ _).alloc _))).mono ?_
  rintro x w2 ⟨rfl, g2⟩
  have G : Hid (Gr w1 w2) := ((Ke.refl _ _).alloc _).gr g2
  clear g2 C HL
  have lm2 := A0.out.keep (G.out.block l A0.out.lt (fun f => f))
  obtain ⟨am, o1, o2, ke⟩ := made_facts r0 r1 r2 lm2
  rw [← HD1.out] at o1
  rw [← HD2.out] at o2
  have KE := Lib.hid ke
  have hp2 : l < w2.heap.size := lm2.lt
  have lm3 := lm2.keep (w' := ((w2.alloc (.cells #[.int .i64 r0, .int .i64 r1, .int .i64 r2] 54)).alloc (.map #[] 0)).alloc (.map #[] 0)) (((((Ke.refl (fun _ => False) w2).alloc _).alloc _).alloc _).block l hp2 (fun f => f))
  have b0' := lm2.c1
  have b1' := lm3.c1
  have b2' := lm3.c2
  have g1' := lm3.fz 1
  have g2' := lm3.fz 2
  have n1 : l ≠ w2.heap.size + 1 := by omega
  have n2 : l ≠ w2.heap.size + 1 + 1 := by omega
  have n12 : w2.heap.size + 1 ≠ w2.heap.size + 1 + 1 := by omega
  have n3 : w2.heap.size ≠ w2.heap.size + 1 := by omega
  have n4 : w2.heap.size ≠ w2.heap.size + 1 + 1 := by omega
  have AM3 := Lib.hid am
  have O1 := Lib.hid o1
  have O2 := Lib.hid o2
  have zz := Lib.hid G.out.size
  clear am o1 o2 ke lm2 lm3 hp c1
  go_wp2_with (first
    | (at_mapUpdate; refine wpList_mapUpdate_in _ rfl _ _ _ 51 rfl 3 59 law3 Try.underlying51 tkElem (w2.heap.size + 1) (Maps.size D1) D1 rfl O1.out HS1.out _ _ _ rfl rfl (keyOf_int_mk Try.underlying3 hi) (tw e p) [] (tkElem_mk e p) ?_; intro w4 own4 turn4; have AM4 := Lib.hid (AM3.out.turned turn4 n1 n3); have OW4 := Lib.hid own4; have TU4 := Lib.hid turn4; have O24 := Lib.hid (own_keep O2.out (turned_block turn4 O2.out.lt (Ne.symm n12))); clear own4 turn4; have c2 := AM4.out.lm.c2)
    | (at_lookup; refine wpList_lookup_own_int _ rfl _ _ 52 rfl 3 3 .i64 law3 Try.underlying52 Try.underlying3 (zero3 _) (w2.heap.size + 1 + 1) _ D2 rfl O24.out _ _ rfl (keyOf_int_mk Try.underlying3 HP.out) ?_; intro cc hat hwc; obtain rfl : q = cc := (by have := HQ.out.symm.trans hat; cases this; rfl); clear hat hwc)
    | (at_mapUpdate; refine wpList_mapUpdate_in _ rfl _ _ _ 52 rfl 3 3 law3 Try.underlying52 _ (w2.heap.size + 1 + 1) (Maps.size D2) D2 rfl O24.out HS2.out _ _ _ rfl rfl (keyOf_int_mk Try.underlying3 HP.out) _ [] (plainElem_int Try.underlying3 (WalkArith.wf_i64 (by omega))) ?_; intro w5 own5 turn5; have AM5 := Lib.hid (AM4.out.turned turn5 n2 n4); have OW5 := Lib.hid own5; have TU5 := Lib.hid turn5; have O15 := Lib.hid (own_keep OW4.out (turned_block turn5 OW4.out.lt n12)); clear own5 turn5; have q0 := AM5.out.q0; have q1 := AM5.out.q1; have q2 := AM5.out.q2; have c3 := AM5.out.lm.c3; have c4 := AM5.out.lm.c4; have c5 := AM5.out.lm.c5; have z3 := AM5.out.lm.fz 3; have z4 := AM5.out.lm.fz 4; have z5 := AM5.out.lm.fz 5))
  go_ret
  have t1 : Tidy D1 := by rw [HD1.out]; exact tidy_empty
  have t2 : IsMap D2 := by rw [HD2.out]; exact isMap_empty
  have zz' := zz.out
  refine ⟨rfl, w2.heap.size + 1, w2.heap.size + 1 + 1, add_done (L := []) AM5.out.lm (by rw [HD1.out]; exact MapT.start) (by rw [HD2.out]; exact MapC.start) t1 t2 O15.out OW5.out (by rw [← HQ'.out]; rfl) n1 n2 n12 OK.out HV.out (fun x hx => by simp at hx) T.out, ?_, by omega, by omega⟩
  have K3 : Ke (fun g => g = l) w1 (madeW w2 l r0 r1 r2) := (Ke.of_gr G.out).trans KE.out
  have K4 := K3.grown TU4.out.grown (fun k hk => by cases hk; exact .inr (by omega))
  have K5 := K4.grown TU5.out.grown (fun k hk => by cases hk; exact .inr (by omega))
  exact ((K5.set (p := ⟨l, 3, none⟩) (.inl rfl) _).set (p := ⟨l, 4, none⟩) (.inl rfl) _).set (p := ⟨l, 5, none⟩) (.inl rfl) _

/-- Add, in all. -/
theorem add_any {w : World} {S : Nat → Prop} {l : Nat} {k : Int} {L : List Wt} (h : Led w S l k L) (i e p v : Int) (hi : (Lit.int .i64 i).wf = true) (hv : addV k L i e p = v) :
    Calls Try.prog 10 #[.pointer (some ⟨l, 0, none⟩), .int .i64 i, .int .i64 e, .int .i64 p] w fun x w' => x = .returned (.int .i64 v) ∧ AddPost w S l k (if v = 0 then L ++ [⟨i, e, p⟩] else L) w' := by
  unfold addV at hv
  by_cases hm : 1 ≤ e ∧ e ≤ p ∧ p ≤ 1048575
  · rw [if_neg (canV_may hm)] at hv
    by_cases ha : L.any (fun x => decide (x.id = i)) = true
    · rw [if_pos ha] at hv
      subst hv
      exact (add_there h i e p hi hm (any_id.1 ha)).mono fun x w' ⟨a, g⟩ => ⟨a, S, h.gr g, Ke.of_gr g, Sv.refl _ _⟩
    · rw [if_neg ha] at hv
      have ht := any_no (by simpa using ha)
      by_cases h0 : v = 0
      · subst h0
        rw [if_pos rfl]
        obtain ⟨c, rfl, ⟨a, rfl, rfl⟩ | ⟨b1, b2, a, rfl⟩⟩ := h
        · refine (add_ok0 a i e p hi hv).mono fun x w' ⟨q, b1, b2, z, g, y1, y2⟩ => ⟨q, Foot l b1 b2, ⟨c, rfl, .inr ⟨b1, b2, z, rfl⟩⟩, g, fun g hg => ?_⟩
          rcases hg with rfl | rfl | rfl
          · exact .inl rfl
          · exact .inr y1
          · exact .inr y2
        · exact (add_ok1 a i e p hi ht hv).mono fun x w' ⟨q, z, g⟩ => ⟨q, Foot l b1 b2, ⟨c, rfl, .inr ⟨b1, b2, z, rfl⟩⟩, g, Sv.refl _ _⟩
      · rw [if_neg h0]
        exact (add_err h i e p v hi hm ht hv h0).mono fun x w' ⟨a, g⟩ => ⟨a, S, h.gr g, Ke.of_gr g, Sv.refl _ _⟩
  · rw [if_pos (canV_arg hm)] at hv
    subst hv
    exact (add_arg h i e p hm).mono fun x w' ⟨a, g⟩ => ⟨a, S, (by rw [g]; exact h), (by rw [g]; exact Ke.refl _ _), Sv.refl _ _⟩
end Go.Proofs.Ytbimaaknjedonaa
