/- The ledger: Can, Add. -/
import Derived.Test.YtbimaaknjedonaaA5
import Derived.WalkSpells
namespace Go.Proofs.Ytbimaaknjedonaa
open Go.RowKit Go.Lib Go.Maps
set_option linter.unusedVariables false

theorem res_of (k : Int) {L : List Wt} {e p N D M : Int} (hm : 1 ≤ e ∧ e ≤ p ∧ p ≤ 1048575) (t : Tot (L ++ [⟨0, e, p⟩]) N D M) : ∃ r0 r1 r2, Res k N D M r0 r1 r2 (canV k L e p) ∧ (canV k L e p = 0 → r0 = N ∧ r1 = D ∧ r2 = M) := by
  have m := t.m
  rcases canV_cases k L e p with ⟨a, _⟩ | ⟨_, ⟨b, q⟩ | ⟨b, ⟨c, q⟩ | ⟨c, q⟩⟩⟩
  · exact absurd hm a
  · rw [q]; exact ⟨0, 0, 0, .inl ⟨by omega, rfl, rfl, rfl, rfl⟩, fun h => by omega⟩
  · rw [t.n, t.d] at c; rw [q]; exact ⟨0, 0, 0, .inr (.inl ⟨by omega, c, rfl, rfl, rfl, rfl⟩), fun h => by omega⟩
  · rw [t.n, t.d] at c; rw [q]; exact ⟨N, D, M, .inr (.inr ⟨by omega, c, rfl, rfl, rfl, rfl⟩), fun _ => ⟨rfl, rfl, rfl⟩⟩
theorem canV_arg {k : Int} {L : List Wt} {e p : Int} (h : ¬ (1 ≤ e ∧ e ≤ p ∧ p ≤ 1048575)) : canV k L e p = 2 := by unfold canV; rw [if_neg h]
theorem mayB_yes {e p : Int} (h : 1 ≤ e ∧ e ≤ p ∧ p ≤ 1048575) : mayB e p = true := by unfold mayB; simp [h]
theorem mayB_no {e p : Int} (h : ¬ (1 ≤ e ∧ e ≤ p ∧ p ≤ 1048575)) : mayB e p = false := by unfold mayB; simp only [decide_eq_false_iff_not]; exact h

/-! ### Can -/
set_option maxHeartbeats 1000000 in
theorem can_any {w : World} {S : Nat → Prop} {l : Nat} {k : Int} {L : List Wt} (h : Led w S l k L) (e p v : Int) (hv : canV k L e p = v) :
    Calls Try.prog 12 #[.pointer (some ⟨l, 0, none⟩), .int .i64 e, .int .i64 p] w fun x w' => x = .returned (.int .i64 v) ∧ Gr w w' := by
  by_cases hm : 1 ≤ e ∧ e ≤ p ∧ p ≤ 1048575
  · obtain ⟨N, D, M, t⟩ := Tot.of (L ++ [⟨0, e, p⟩])
    obtain ⟨r0, r1, r2, hr, _⟩ := res_of k hm t
    rw [hv] at hr
    have C := Lib.hid (with_any h hm t hr)
    have MB := Lib.hid (mayB_yes hm)
    clear h hm t hr hv
    go_enter Try.func12, Try.ntmps12
    go_wp2_with fail
    refine (may_any e p _).mono ?_
    rintro x w1 ⟨rfl, rfl⟩
    rw [MB.out]
    go_wp2_with fail
    refine C.out.mono ?_
    rintro x w2 ⟨rfl, g2⟩
    have G := Lib.hid g2
    clear g2 C
    go_wp2
    go_ret
    exact ⟨rfl, G.out.alloc _⟩
  · rw [canV_arg hm] at hv
    subst hv
    have MB := Lib.hid (mayB_no hm)
    clear h hm
    go_enter Try.func12, Try.ntmps12
    go_wp2_with fail
    refine (may_any e p _).mono ?_
    rintro x w1 ⟨rfl, rfl⟩
    rw [MB.out]
    go_wp2
    go_ret
    exact ⟨rfl, Ke.refl _ _⟩

/-! ### Add -/
/-- What is answered to one that joins. -/
def addV (k : Int) (L : List Wt) (i e p : Int) : Int := if canV k L e p = 2 then 2 else if L.any (fun x => decide (x.id = i)) then 4 else canV k L e p
theorem any_id {L : List Wt} {i : Int} : L.any (fun x => decide (x.id = i)) = true ↔ ∃ x ∈ L, x.id = i := by simp [List.any_eq_true]
theorem any_no {L : List Wt} {i : Int} (h : L.any (fun x => decide (x.id = i)) = false) : ∀ x ∈ L, x.id ≠ i := fun x hx e => by
  have := any_id.2 ⟨x, hx, e⟩
  rw [h] at this; cases this
theorem canV_may {k : Int} {L : List Wt} {e p : Int} (h : 1 ≤ e ∧ e ≤ p ∧ p ≤ 1048575) : canV k L e p ≠ 2 := by
  rcases canV_cases k L e p with ⟨a, _⟩ | ⟨_, ⟨b, q⟩ | ⟨b, ⟨c, q⟩ | ⟨c, q⟩⟩⟩
  · exact absurd h a
  all_goals omega
/-- The new blocks are old ones, or new memory. -/
def Sv (S S' : Nat → Prop) (w : World) : Prop := ∀ g, S' g → S g ∨ w.heap.size ≤ g
theorem Sv.refl (S : Nat → Prop) (w : World) : Sv S S w := fun _ h => .inl h
theorem turned_ke {F : Nat → Prop} {w w' : World} {b : Nat} (h : w.mapTurned w' b) (hF : F b) : Ke F w w' := (Ke.refl F w).grown h.grown (fun k hk => by cases hk; exact .inl hF)
theorem turned_block {w w' : World} {b : Nat} (h : w.mapTurned w' b) {g : Nat} (hg : g < w.heap.size) (hne : g ≠ b) : w'.heap[g]? = w.heap[g]? := h.grown.block g hg (fun e => hne (by cases e; rfl))

section
variable {w : World} {S : Nat → Prop} {l : Nat} {k : Int} {L : List Wt}
theorem add_arg (h : Led w S l k L) (i e p : Int) (hm : ¬ (1 ≤ e ∧ e ≤ p ∧ p ≤ 1048575)) :
    Calls Try.prog 10 #[.pointer (some ⟨l, 0, none⟩), .int .i64 i, .int .i64 e, .int .i64 p] w fun x w' => x = .returned (.int .i64 2) ∧ w' = w := by
  have MB := Lib.hid (mayB_no hm)
  clear h hm
  go_enter Try.func10, Try.ntmps10
  go_wp2_with fail
  refine (may_any e p _).mono ?_
  rintro x w1 ⟨rfl, rfl⟩
  rw [MB.out]
  go_wp2
  go_ret
  exact ⟨rfl, rfl⟩
theorem add_there (h : Led w S l k L) (i e p : Int) (hi : (Lit.int .i64 i).wf = true) (hm : 1 ≤ e ∧ e ≤ p ∧ p ≤ 1048575) (ht : ∃ x ∈ L, x.id = i) :
    Calls Try.prog 10 #[.pointer (some ⟨l, 0, none⟩), .int .i64 i, .int .i64 e, .int .i64 p] w fun x w' => x = .returned (.int .i64 4) ∧ Gr w w' := by
  have MB := Lib.hid (mayB_yes hm)
  obtain ⟨c, _, ⟨_, rfl, _⟩ | ⟨b1, b2, a, _⟩⟩ := h
  · obtain ⟨x, hx, _⟩ := ht; simp at hx
  · obtain ⟨s0, s1, s2, a0, _⟩ := a.ex
    obtain ⟨D1, o1, m1⟩ := a.o1
    have HA := Lib.hid ((m1.has i).2 ht)
    have OW := Lib.hid o1
    have c1 := a0.c1
    have hp := a0.lt
    clear a0 a m1 o1 ht hm
    go_enter Try.func10, Try.ntmps10
    go_wp2_with fail
    refine (may_any e p _).mono ?_
    rintro x w1 ⟨rfl, rfl⟩
    rw [MB.out]
    go_wp2_with (at_lookup; refine wpList_lookup_own_ok _ rfl _ _ 51 rfl 3 59 law3 Try.underlying51 tkElem (zero59 _) (tw 0 0) [] (tkElem_mk 0 0) b1 _ D1 rfl OW.out _ _ rfl (keyOf_int_mk Try.underlying3 hi) ?_; intro v ps hv; obtain ⟨e', p', rfl, _⟩ := tkElem_inv hv; clear hv; rw [HA.out])
    go_ret
    exact ⟨rfl, (Ke.refl _ _).alloc _⟩
set_option maxHeartbeats 1000000 in
theorem add_err (h : Led w S l k L) (i e p v : Int) (hi : (Lit.int .i64 i).wf = true) (hm : 1 ≤ e ∧ e ≤ p ∧ p ≤ 1048575) (ht : ∀ x ∈ L, x.id ≠ i) (hv : canV k L e p = v) (h0 : v ≠ 0) :
    Calls Try.prog 10 #[.pointer (some ⟨l, 0, none⟩), .int .i64 i, .int .i64 e, .int .i64 p] w fun x w' => x = .returned (.int .i64 v) ∧ Gr w w' := by
  have MB := Lib.hid (mayB_yes hm)
  obtain ⟨N, D, M, t⟩ := Tot.of (L ++ [⟨0, e, p⟩])
  obtain ⟨r0, r1, r2, hr, _⟩ := res_of k hm t
  rw [hv] at hr
  have C := Lib.hid (fun (W : World) (H : Led W S l k L) => with_any H hm t hr)
  have H := Lib.hid h
  have d0 : (v != 0) = true := by simpa using h0
  have d1 : ¬ v = 0 := h0
  clear t hr hv hm
  obtain ⟨c, _, ⟨⟨s0, s1, s2, a0⟩, e0, _⟩ | ⟨b1, b2, a, _⟩⟩ := h
  · have c1 := a0.c1
    have hp := a0.lt
    have HL := fun w => Maps.look_nil (P := Try.prog) (w := w) (t := 51) true law3 Try.underlying51 (zero59 w) (keyOf_int_mk Try.underlying3 hi)
    simp only [if_true] at HL
    clear a0 ht e0
    go_enter Try.func10, Try.ntmps10
    go_wp2_with fail
    refine (may_any e p _).mono ?_
    rintro x w1 ⟨rfl, rfl⟩
    rw [MB.out]
    go_wp2_with fail
    refine (C.out _ (H.out.gr ((Ke.refl _ _).alloc _))).mono ?_
    rintro x w2 ⟨rfl, g2⟩
    have G : Hid (Gr w1 w2) := ((Ke.refl _ _).alloc _).gr g2
    clear g2 C HL
    go_wp2
    go_ret
    exact ⟨rfl, G.out.alloc _⟩
  · obtain ⟨s0, s1, s2, a0, _⟩ := a.ex
    obtain ⟨D1, o1, m1⟩ := a.o1
    have HA := Lib.hid (m1.no ht)
    have OW := Lib.hid o1
    have c1 := a0.c1
    have hp := a0.lt
    clear a0 a m1 o1 ht
    go_enter Try.func10, Try.ntmps10
    go_wp2_with fail
    refine (may_any e p _).mono ?_
    rintro x w1 ⟨rfl, rfl⟩
    rw [MB.out]
    go_wp2_with (at_lookup; refine wpList_lookup_own_ok _ rfl _ _ 51 rfl 3 59 law3 Try.underlying51 tkElem (zero59 _) (tw 0 0) [] (tkElem_mk 0 0) b1 _ D1 rfl OW.out _ _ rfl (keyOf_int_mk Try.underlying3 hi) ?_; intro v ps hv; obtain ⟨e', p', rfl, _⟩ := tkElem_inv hv; clear hv; rw [HA.out])
    refine (C.out _ (H.out.gr ((Ke.refl _ _).alloc _))).mono ?_
    rintro x w2 ⟨rfl, g2⟩
    have G : Hid (Gr w1 w2) := ((Ke.refl _ _).alloc _).gr g2
    clear g2 C
    go_wp2
    go_ret
    exact ⟨rfl, G.out.alloc _⟩
end
/-- Add on its way: the ledger's block, the new total in its box. -/
structure AM (W : World) (l b1 b2 B : Nat) (c s0 s1 s2 r0 r1 r2 : Int) : Prop where
  lm : LM W l (.map (some b1)) (.map (some b2)) c s0 s1 s2
  q0 : W.cell? ⟨B, 0, none⟩ = some (.int .i64 r0)
  q1 : W.cell? ⟨B, 1, none⟩ = some (.int .i64 r1)
  q2 : W.cell? ⟨B, 2, none⟩ = some (.int .i64 r2)
theorem AM.turned {W W' : World} {l b1 b2 B b : Nat} {c s0 s1 s2 r0 r1 r2 : Int} (h : AM W l b1 b2 B c s0 s1 s2 r0 r1 r2) (t : W.mapTurned W' b) (h1 : l ≠ b) (h2 : B ≠ b) : AM W' l b1 b2 B c s0 s1 s2 r0 r1 r2 := by
  have e := turned_block t h.lm.lt h1
  have f := turned_block t (cell_lt h.q0) h2
  exact ⟨h.lm.keep e, (World.cell?_of_block (a := ⟨B, 0, none⟩) f).trans h.q0, (World.cell?_of_block (a := ⟨B, 1, none⟩) f).trans h.q1, (World.cell?_of_block (a := ⟨B, 2, none⟩) f).trans h.q2⟩
/-- The ledger's total turned. -/
theorem LM.setT {W : World} {l : Nat} {m1 m2 : Value} {c s0 s1 s2 : Int} (h : LM W l m1 m2 c s0 s1 s2) (r0 r1 r2 : Int) : LM (((W.setCell ⟨l, 3, none⟩ (.int .i64 r0)).setCell ⟨l, 4, none⟩ (.int .i64 r1)).setCell ⟨l, 5, none⟩ (.int .i64 r2)) l m1 m2 c r0 r1 r2 := by
  obtain ⟨a0, a1, a2, a3, a4, a5, fz⟩ := h
  refine ⟨?_, ?_, ?_, ?_, ?_, ?_, fun o => by simpa using fz o⟩
  all_goals simp [go_sem, a0, a1, a2, a3, a4, a5]
/-- What Add leaves. -/
def AddPost (w : World) (S : Nat → Prop) (l : Nat) (k : Int) (L' : List Wt) (w' : World) : Prop := ∃ S', Led w' S' l k L' ∧ Ke S w w' ∧ Sv S S' w
/-- The new total is there, the maps are turned: the ledger holds one more. -/
theorem add_done {W : World} {l b1 b2 : Nat} {c s0 s1 s2 i e p : Int} {k1 k2 : Nat} {D1 D2 : DataW Unit} {L : List Wt} {y : Int} (h : LM W l (.map (some b1)) (.map (some b2)) c s0 s1 s2) (m1 : MapT D1 L) (m2 : MapC D2 L) (t1 : Tidy D1) (t2 : IsMap D2)
    (o1 : W.ownsMap Try.prog 3 tkElem b1 k1 (D1.put (.int .i64 i) (tw e p))) (o2 : W.ownsMap Try.prog 3 (plainElem Try.prog 3) b2 k2 (D2.put (.int .i64 p) (.lit (.int .i64 y)))) (hy : y = (cntL p L : Nat) + 1)
    (n1 : l ≠ b1) (n2 : l ≠ b2) (n12 : b1 ≠ b2) (ok : Okay (cut c) L) (hc : canV (cut c) L e p = 0) (hi : ∀ x ∈ L, x.id ≠ i) {r0 r1 r2 : Int} (t : Tot (L ++ [⟨i, e, p⟩]) r0 r1 r2) :
    Led1 (((W.setCell ⟨l, 3, none⟩ (.int .i64 r0)).setCell ⟨l, 4, none⟩ (.int .i64 r1)).setCell ⟨l, 5, none⟩ (.int .i64 r2)) l b1 b2 c (L ++ [⟨i, e, p⟩]) := by
  refine ⟨⟨r0, r1, r2, h.setT r0 r1 r2, fun _ => t⟩, ⟨_, own_tight (((o1.setCell (Ne.symm n1) _).setCell (Ne.symm n1) _).setCell (Ne.symm n1) _), m1.add t1 ⟨i, e, p⟩ hi⟩, ⟨_, own_tight (((o2.setCell (Ne.symm n2) _).setCell (Ne.symm n2) _).setCell (Ne.symm n2) _), m2.turn t2 p ?_ ?_ ?_⟩, n1, n2, n12, ok.add hc hi⟩
  · rw [cntL_app]; simp
  · intro z hz; rw [cntL_app, if_neg (fun e => hz (by rw [← e]))]; rfl
  · rw [hy, cntL_app]; simp
theorem tot_id {L : List Wt} {i j e p N D M : Int} (t : Tot (L ++ [⟨i, e, p⟩]) N D M) : Tot (L ++ [⟨j, e, p⟩]) N D M := ⟨by rw [sumL_id L j i]; exact t.n, by rw [sumL_id L j i]; exact t.d, by rw [lcmL_id L j i]; exact t.m⟩
theorem wf_small {p : Int} (h0 : 0 ≤ p) (h1 : p ≤ 1073741824) : (Lit.int .i64 p).wf = true := WalkArith.wf_i64 (by omega)
theorem len_small {k : Int} {L : List Wt} (h : Okay k L) : L.length ≤ 1073741824 := by
  have := sum_bd h.may (m := 16777216) (c := k) (by have := h.lcm; omega) h.sum (by have := h.k0; omega)
  have := h.k1
  omega

set_option maxHeartbeats 2000000 in
theorem add_ok1 {w : World} {l b1 b2 : Nat} {c : Int} {L : List Wt} (h : Led1 w l b1 b2 c L) (i e p : Int) (hi : (Lit.int .i64 i).wf = true) (ht : ∀ x ∈ L, x.id ≠ i) (hv : canV (cut c) L e p = 0) :
    Calls Try.prog 10 #[.pointer (some ⟨l, 0, none⟩), .int .i64 i, .int .i64 e, .int .i64 p] w fun x w' => x = .returned (.int .i64 0) ∧ Led1 w' l b1 b2 c (L ++ [⟨i, e, p⟩]) ∧ Ke (Foot l b1 b2) w w' := by
  have hm : 1 ≤ e ∧ e ≤ p ∧ p ≤ 1048575 := Classical.byContradiction fun q => by rw [canV_arg q] at hv; omega
  have MB := Lib.hid (mayB_yes hm)
  obtain ⟨N, D, M, t⟩ := Tot.of (L ++ [⟨0, e, p⟩])
  obtain ⟨r0, r1, r2, hr, hr'⟩ := res_of (cut c) hm t
  obtain ⟨rfl, rfl, rfl⟩ := hr' hv
  rw [hv] at hr
  have H : Hid (Led w (Foot l b1 b2) l (cut c) L) := ⟨c, rfl, .inr ⟨b1, b2, h, rfl⟩⟩
  have C := Lib.hid (fun (W : World) (H : Led W (Foot l b1 b2) l (cut c) L) => with_any H hm t hr)
  have T := Lib.hid (tot_id (j := i) t)
  have HI := Lib.hid ht
  have HV := Lib.hid hv
  have OK := Lib.hid h.ok
  have n1 := h.p1
  have n2 := h.p2
  have n12 := h.b12
  obtain ⟨s0, s1, s2, a0, _⟩ := h.ex
  obtain ⟨D1, o1, m1⟩ := h.o1
  obtain ⟨D2, o2, m2⟩ := h.o2
  have HA := Lib.hid (m1.no ht)
  have OW := Lib.hid o1
  have OX := Lib.hid o2
  have A0 := Lib.hid a0
  have M1 := Lib.hid m1
  have M2 := Lib.hid m2
  obtain ⟨q, HQ', HQ⟩ : ∃ q : Int, Hid (((cntL p L : Nat) : Int) = q) ∧ Hid (D2.atKey (.int .i64 p) (.lit (.int .i64 0)) = .lit (.int .i64 q)) := ⟨_, rfl, m2.at_ p⟩
  have hq0 : 0 ≤ q := by have := HQ'.out; omega
  have hq1 : q ≤ 1073741824 := by have := HQ'.out; have := cntL_le p L; have := len_small h.ok; omega
  have HP : Hid ((Lit.int .i64 p).wf = true) := wf_small (by omega) (by omega)
  have HS1 : Hid (Maps.size D1 < maxLen) := by have := m1.size; have := len_small h.ok; show _ < _; unfold maxLen; omega
  have HS2 : Hid (Maps.size D2 < maxLen) := by have := m2.small h.ok.may o2; show _ < _; unfold maxLen; omega
  have c1 := a0.c1
  have hp := a0.lt
  have L1 := Lib.hid o1.lt
  have L2 := Lib.hid o2.lt
  have q51 : ∀ (w : World) (r : Option Nat), (binOp .eql 51 (.map r) (.map none)).run Try.prog w = .ok (.bool r.isNone) w := fun w r => run_eql_map_nil w _ _ _ r Try.underlying51
  clear t hr hr' hv hm ht h a0 m1 m2 o1 o2
  go_enter Try.func10, Try.ntmps10
  go_wp2_with fail
  refine (may_any e p _).mono ?_
  rintro x w1 ⟨rfl, rfl⟩
  rw [MB.out]
  go_wp2_with (at_lookup; refine wpList_lookup_own_ok _ rfl _ _ 51 rfl 3 59 law3 Try.underlying51 tkElem (zero59 _) (tw 0 0) [] (tkElem_mk 0 0) b1 _ D1 rfl OW.out _ _ rfl (keyOf_int_mk Try.underlying3 hi) ?_; intro v ps hv; obtain ⟨e', p', rfl, _⟩ := tkElem_inv hv; clear hv; rw [HA.out])
  refine (C.out _ (H.out.gr ((Ke.refl _ _).alloc _))).mono ?_
  rintro x w2 ⟨rfl, g2⟩
  have G : Hid (Gr w1 w2) := ((Ke.refl _ _).alloc _).gr g2
  have G3 : Hid (Gr w1 (w2.alloc (.cells #[.int .i64 r0, .int .i64 r1, .int .i64 r2] 54))) := G.out.alloc _
  clear g2 C
  have AM3 : Hid (AM (w2.alloc (.cells #[.int .i64 r0, .int .i64 r1, .int .i64 r2] 54)) l b1 b2 w2.heap.size c s0 s1 s2 r0 r1 r2) := ⟨A0.out.keep (G3.out.block l A0.out.lt (fun f => f)), by simp [go_sem], by simp [go_sem], by simp [go_sem]⟩
  have O1 := Lib.hid (own_keep OW.out (G3.out.block b1 OW.out.lt (fun f => f)))
  have O2 := Lib.hid (own_keep OX.out (G3.out.block b2 OX.out.lt (fun f => f)))
  have zz := G.out.size
  have n3 : w2.heap.size ≠ b1 := by have := L1.out; omega
  have n4 : w2.heap.size ≠ b2 := by have := L2.out; omega
  have c1 : w2.cell? ⟨l, 1, none⟩ = some (.map (some b1)) := kcell G.out A0.out.c1
  have hp2 : l < w2.heap.size := by omega
  clear hp zz
  go_wp2_with (first
    | (at_mapUpdate; refine wpList_mapUpdate_in _ rfl _ _ _ 51 rfl 3 59 law3 Try.underlying51 tkElem b1 (Maps.size D1) D1 rfl O1.out HS1.out _ _ _ rfl rfl (keyOf_int_mk Try.underlying3 hi) (tw e p) [] (tkElem_mk e p) ?_; intro w4 own4 turn4; have AM4 := Lib.hid (AM3.out.turned turn4 n1 n3); have OW4 := Lib.hid own4; have TU4 := Lib.hid turn4; have O24 := Lib.hid (own_keep O2.out (turned_block turn4 O2.out.lt (Ne.symm n12))); clear own4 turn4; have c2 := AM4.out.lm.c2)
    | (at_lookup; refine wpList_lookup_own_int _ rfl _ _ 52 rfl 3 3 .i64 law3 Try.underlying52 Try.underlying3 (zero3 _) b2 _ D2 rfl O24.out _ _ rfl (keyOf_int_mk Try.underlying3 HP.out) ?_; intro cc hat hwc; obtain rfl : q = cc := (by have := HQ.out.symm.trans hat; cases this; rfl); clear hat hwc)
    | (at_mapUpdate; refine wpList_mapUpdate_in _ rfl _ _ _ 52 rfl 3 3 law3 Try.underlying52 _ b2 (Maps.size D2) D2 rfl O24.out HS2.out _ _ _ rfl rfl (keyOf_int_mk Try.underlying3 HP.out) _ [] (plainElem_int Try.underlying3 (WalkArith.wf_i64 (by omega))) ?_; intro w5 own5 turn5; have AM5 := Lib.hid (AM4.out.turned turn5 n2 n4); have OW5 := Lib.hid own5; have TU5 := Lib.hid turn5; have O15 := Lib.hid (own_keep OW4.out (turned_block turn5 OW4.out.lt n12)); clear own5 turn5; have q0 := AM5.out.q0; have q1 := AM5.out.q1; have q2 := AM5.out.q2; have c3 := AM5.out.lm.c3; have c4 := AM5.out.lm.c4; have c5 := AM5.out.lm.c5; have z3 := AM5.out.lm.fz 3; have z4 := AM5.out.lm.fz 4; have z5 := AM5.out.lm.fz 5))
  go_ret
  refine ⟨rfl, add_done AM5.out.lm M1.out M2.out (OW.out.tidy law3) OX.out.isMap O15.out OW5.out (by rw [HQ'.out]) n1 n2 n12 OK.out HV.out HI.out T.out, ?_⟩
  have K5 : Ke (Foot l b1 b2) w1 w5 := ((Ke.of_gr G3.out).trans (turned_ke TU4.out (.inr (.inl rfl)))).trans (turned_ke TU5.out (.inr (.inr rfl)))
  exact ((K5.set (p := ⟨l, 3, none⟩) (.inl (.inl rfl)) _).set (p := ⟨l, 4, none⟩) (.inl (.inl rfl)) _).set (p := ⟨l, 5, none⟩) (.inl (.inl rfl)) _
end Go.Proofs.Ytbimaaknjedonaa
