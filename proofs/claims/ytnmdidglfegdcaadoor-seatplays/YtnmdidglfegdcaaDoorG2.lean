/- The document's own seats: contracts of Last, Forget. -/
import Derived.Test.YtnmdidglfegdcaaDoorG1
namespace Go.Proofs.YtnmdidglfegdcaaDoor
open Go.RowKit Go.Lib Go.Maps
set_option linter.unusedVariables false
set_option maxRecDepth 100000
set_option maxHeartbeats 4000000

section
variable {w w' : World} {base p n : Nat} {v : Value} {S : List Sa}
/-- Without one. -/
def delS (S : List Sa) (x : Int) : List Sa := match atI S x with
  | some k => S.eraseIdx k
  | none => S
theorem atI_lt {x : Int} {k : Nat} (h : atI S x = some k) : k < S.length := by
  unfold atI at h
  rw [List.findIdx?_eq_some_iff_getElem] at h
  exact h.1
theorem last_rf (h : Rf w base p n v S) (x : Int) : Calls Tryd.prog 15 #[.pointer (some ⟨p, 0, none⟩), .int .i64 x] w fun e w' => e = .returned (.tuple #[.int .i64 (match atI S x with | some k => ((S.getD k zeroS).c : Nat) | none => 0), .bool (atI S x).isSome]) ∧ Gr w w' := by
  have AT := Lib.hid (at_any h x)
  unfold atV at AT
  cases e : atI S x with
  | none =>
    rw [e] at AT
    clear h e
    go_enter Tryd.func15, Tryd.ntmps15
    go_wp2_with fail
    refine AT.out.mono ?_
    rintro e w1 ⟨rfl, hw⟩
    obtain rfl := hw.symm
    clear hw AT
    go_wp2_with fail
    go_ret2
    exact ⟨rfl, Ke.refl _ _⟩
  | some k =>
    rw [e] at AT
    have hk := atI_lt e
    obtain ⟨g, cap, rfl, _⟩ := Row.form h.row (by omega)
    have c1 := h.c1
    have kc := h.row.cell (k * 3 + 1) (by omega)
    rw [tc_at _ k 1 (by omega)] at kc
    simp only [fld] at kc
    have kz : (k : Int) < (S.length : Int) := by omega
    obtain ⟨cc, hcc⟩ : ∃ cc, cc = (S.getD k zeroS).c := ⟨_, rfl⟩
    have HCC := Lib.hid hcc
    rw [← hcc] at kc
    clear h e hcc
    simp only at AT
    go_enter Tryd.func15, Tryd.ntmps15
    go_wp2_with fail
    refine AT.out.mono ?_
    rintro e w1 ⟨rfl, hw⟩
    obtain rfl := hw.symm
    clear hw AT
    go_wp2_with fail
    go_ret2
    simp only [← HCC.out]
    exact ⟨rfl, Ke.refl _ _⟩
theorem forget_rf (h : Rf w base p n v S) (hbs : base ≤ w.heap.size) (x : Int) : Calls Tryd.prog 11 #[.pointer (some ⟨p, 0, none⟩), .int .i64 x] w fun e w' => e = .returned (.tuple #[]) ∧ ∃ v', Rf w' base p n v' (delS S x) ∧ Ke (fun j => j = p) w w' ∧ ∀ j, v'.ownBlock = some j → v.ownBlock = some j ∨ w.heap.size ≤ j := by
  have AT := Lib.hid (at_any h x)
  unfold atV at AT
  unfold delS
  cases e : atI S x with
  | none =>
    rw [e] at AT
    have H := Lib.hid h
    clear h e
    go_enter Tryd.func11, Tryd.ntmps11
    go_wp2_with fail
    refine AT.out.mono ?_
    rintro e w1 ⟨rfl, hw⟩
    obtain rfl := hw.symm
    clear hw AT
    go_wp2_with fail
    go_end0
    exact ⟨rfl, _, H.out, Ke.refl _ _, fun j hj => .inl hj⟩
  | some k =>
    rw [e] at AT
    have hk := atI_lt e
    obtain ⟨g, cap, rfl, _, _, hnc0, _⟩ := Row.form h.row (by omega)
    have H := Lib.hid h
    have c1 := h.c1
    have f1 := h.fz 1
    have ln := h.ln
    obtain ⟨N, hN⟩ : ∃ N, N = S.length := ⟨_, rfl⟩
    rw [← hN] at c1 hk H ln hnc0
    have hkN : (k : Int) ≤ (N : Int) := by omega
    have hkc : (k : Int) ≤ (cap : Int) := by omega
    have hNc : (N : Int) ≤ (cap : Int) := by omega
    have hk0 : (0 : Int) ≤ (k : Int) := by omega
    obtain ⟨q, hq⟩ : ∃ q, q = k + 1 := ⟨_, rfl⟩
    have wq : IntKind.i64.wrap ((k : Int) + 1) = (q : Int) := by rw [IntKind.wrap_i64]; omega
    have wq2 : IntKind.i64.wrap (q : Int) = (q : Int) := by rw [IntKind.wrap_i64]; omega
    have hk1 : (q : Int) ≤ (N : Int) := by omega
    have hk2 : (0 : Int) ≤ (q : Int) := by omega
    have hk3 : (q : Int) ≤ (cap : Int) := by omega
    have HQ := Lib.hid hq
    have HN := Lib.hid hN
    have R := Lib.hid h.row
    rw [← hN] at R
    obtain ⟨A2, hA2, hadd⟩ := slice_at g cap q N (by omega) hnc0
    have BX : Hid (∀ X, Gr w X → X.cell? ⟨p, 1, none⟩ = some (.slice (some ⟨g, 0, none⟩) N cap) ∧ X.frozen? ⟨p, 1, none⟩ = false) := Lib.hid fun X G => ⟨gcell G c1, (h.gr G).fz 1⟩
    clear h hN hq e
    simp only at AT
    go_enter Tryd.func11, Tryd.ntmps11
    go_wp2_with fail
    refine AT.out.mono ?_
    rintro e w1 ⟨rfl, hw⟩
    obtain rfl := hw.symm
    clear hw AT
    go_wp2_with fail
    go_region_law
      (first
        | (refine step_part rfl (.const (.slice none 0 0)) (.tmp 16) rfl R.out HN.out 0 k (by omega) ((bd_start w).next (by repeat (first | with_reducible assumption | with_reducible exact Ke.refl _ _ | with_reducible apply Ke.drew | with_reducible apply Ke.alloc))) (by simp; omega) ⟨g, 0, none⟩ cap (fun j hj => by unfold Addr.add; split <;> simp_all) rfl rfl ?_; intro v1 X1 Q1; have g1 := Q1.gr; have ⟨e1, z1⟩ := BX.out _ g1)
        | (refine step_part rfl (.tmp 17) (.tmp 24) rfl R.out HN.out q (N - q) (by omega) (Q1.next (by repeat (first | with_reducible assumption | with_reducible exact Ke.refl _ _ | with_reducible apply Ke.drew | with_reducible apply Ke.alloc))) (by simp; omega) A2 _ hadd rfl rfl ?_; intro v2 X2 Q2; obtain ⟨xa, m, ca, rfl⟩ := Q2.form; have g2 := Q2.gr; have ⟨e2, z2⟩ := BX.out _ g2))
    all_goals
      rw [parts_erase S HQ.out HN.out] at Q2
      have PU := Lib.hid (H.out.put Q2 (by rw [List.length_eraseIdx]; have := HN.out; split <;> omega) hbs)
      have OB := Lib.hid (fun j hj => (Row.lt Q2.row (g := j) hj).1)
      clear Q1 Q2 g1 g2 e1 z1 e2 z2
      go_wp2_with fail
      go_end0
      exact ⟨rfl, _, PU.out.1, PU.out.2, fun j hj => .inr (OB.out j hj)⟩
/-- One more behind the last one, as a step of a region that draws. -/
theorem step_app {ops : Array Oper} {o : Oper} {a : Act} {w W0 : World} {K : Act → World → Prop} {Q : Exit → Act → World → Prop} {Y : Prop} (hg : o.guard = none) (s x : Operand) (hop : o.op = Op.call { callee := Callee.builtin Builtin.append, args := #[s, x], argTypes := #[27, 27] })
    {base : Nat} {v : Value} {A : List Sa} (row : Row W0 base 57 3 v A.length (tl A)) (hb : base ≤ W0.heap.size) (hl : A.length ≤ 40000) (g : Gr W0 w) (y : Sa) (b : Nat) (hbox : ∀ j, j < 3 → w.cell? ⟨b, j, none⟩ = some (fld y j)) (hs : a.eval s = v) (hx : a.eval x = .slice (some ⟨b, 0, none⟩) 1 1)
    (hK : ∀ v' w', ApP w base v (A ++ [y]) v' w' → K (a.put o.dst v') w') :
    if Region.wanted o (yielded ops a.tmps) = true then Oper.wp Tryd.prog o a w K Q else Y := by
  obtain ⟨v', w', hr, h1⟩ := app_tk w base v A [y] (row.keep (fun j hj => g.block j (Row.lt row hj).2 (fun q => q))) (Nat.le_trans hb g.size) (by simp; omega) ⟨b, 0, none⟩ 1 1 rfl (fun j hj => by
    have e : (⟨b, 0, none⟩ : Addr).add j = ⟨b, j, none⟩ := by unfold Addr.add; split <;> simp_all
    rw [e, hbox j (by omega)]
    show some (fld y j) = some (fld ([y].getD (j / 3) zeroS) (j % 3))
    rw [show j / 3 = 0 by omega, show j % 3 = j by omega]
    rfl)
  exact step_append_run hg s x 27 hop _ _ hs hx v' w' hr (hK v' w' h1)
theorem ApP.form {w w' : World} {base : Nat} {v v' : Value} {A : List Sa} (h : ApP w base v A v' w') : ∃ xa m ca, v' = .slice xa m ca := by
  rcases Row.shape h.row with ⟨rfl, h0⟩ | ⟨g, cap, rfl, _⟩
  · exact ⟨_, _, _, rfl⟩
  · exact ⟨_, _, _, rfl⟩
theorem ApP.cell {W0 X X1 : World} {base p n : Nat} {v v' : Value} {S A : List Sa} (h : Rf W0 base p n v S) (g : Gr W0 X) (q : ApP X base v A v' X1) : X1.cell? ⟨p, 1, none⟩ = some v ∧ X1.frozen? ⟨p, 1, none⟩ = false := by
  have hp : p < X.heap.size := Nat.lt_of_lt_of_le (lt_of_cell h.c0) g.size
  have e : X1.heap[p]? = X.heap[p]? := q.gr.block p hp (fun e => h.vp e.symm)
  have h2 := h.gr g
  exact ⟨(World.cell?_of_block (a := ⟨p, 1, none⟩) e).trans h2.c1, (World.frozen?_of_block (a := ⟨p, 1, none⟩) e).trans (h2.fz 1)⟩
/-- One more, stored. -/
theorem Rf.app {W0 X X1 : World} {v' : Value} {y : Sa} (h : Rf W0 base p n v S) (g : Gr W0 X) (q : ApP X base v (S ++ [y]) v' X1) (hl : S.length + 1 ≤ 20000) : Rf (X1.setCell ⟨p, 1, none⟩ v') base p n v' (S ++ [y]) ∧ Ke (fun j => j = p ∨ v.ownBlock = some j) W0 (X1.setCell ⟨p, 1, none⟩ v') ∧ ∀ j, v'.ownBlock = some j → v.ownBlock = some j ∨ W0.heap.size ≤ j := by
  have hp0 : p < W0.heap.size := lt_of_cell h.c0
  have hp : p < X.heap.size := Nat.lt_of_lt_of_le hp0 g.size
  have e : X1.heap[p]? = X.heap[p]? := q.gr.block p hp (fun e => h.vp e.symm)
  have h2 := h.gr g
  have c0 := (World.cell?_of_block (a := ⟨p, 0, none⟩) e).trans h2.c0
  have c1 := (World.cell?_of_block (a := ⟨p, 1, none⟩) e).trans h2.c1
  have fz : ∀ o, X1.frozen? ⟨p, o, none⟩ = false := fun o => (World.frozen?_of_block (a := ⟨p, o, none⟩) e).trans (h2.fz o)
  have hne : v'.ownBlock ≠ some p := fun z => by
    rcases q.at_ with w | w
    · rw [w] at z; exact h.vp z
    · rw [w] at z; cases z; omega
  refine ⟨⟨h.bp, ?_, ?_, fun o => by simpa using fz o, ?_, hne, by simpa using hl⟩, ?_, fun j hj => ?_⟩
  · simp [go_sem, c0]
  · simp [go_sem, c1]
  · exact q.row.keep (fun j hj => blk_other X1 p 1 v' j (fun e => hne (e ▸ hj)))
  · exact (((g.of_gr : Ke (fun j => j = p ∨ v.ownBlock = some j) W0 X).grown q.gr (fun j hj => .inl (.inr hj))).set (p := ⟨p, 1, none⟩) (.inl (.inl rfl)) v')
  · rcases q.at_ with w | w
    · exact .inl (by rw [← w]; exact hj)
    · rw [w] at hj; cases hj; exact .inr g.size
end
end Go.Proofs.YtnmdidglfegdcaaDoor
