/- The law HeapPlays walked. -/
import Derived.Test.YtfbgjlfepnbcgaaB7
import Derived.Deep.RegionLaw
namespace Go.Proofs.Ytfbgjlfepnbcgaa
open Go.RowKit Go.Lib
set_option linter.unusedVariables false

/-- An append whose run is known, as one step of a region that draws. -/
theorem step_append_run {P : Program} {ops : Array Oper} {o : Oper} {a : Act} {w : World} {K : Act → World → Prop} {Q : Exit → Act → World → Prop} {X : Prop}
    (hg : o.guard = none) (s x : Operand) (t : TypeId) (hop : o.op = Op.call { callee := Callee.builtin Builtin.append, args := #[s, x], argTypes := #[t, t] })
    (vs vx : Value) (hs : a.eval s = vs) (hx : a.eval x = vx) (v' : Value) (w' : World) (hr : ∀ ty, (Builtin.append_ #[t, t] ty #[vs, vx]).run P w = .ok v' w') (hK : K (a.put o.dst v') w') :
    if Region.wanted o (yielded ops a.tmps) = true then Oper.wp P o a w K Q else X := by
  have hw : Region.wanted o (yielded ops a.tmps) = true := by simp [Region.wanted, hg]
  rw [if_pos hw]
  unfold Oper.wp execOp
  simp only [hop, resolve, invoke, builtin, Sem.run_bind, Sem.run_pure, Result.andThen_ok, List.map_toArray, List.map_cons, List.map_nil, hs, hx, hr]
  exact hK

/-- What a round of the law begins and ends with. -/
def Inv (w0 w : World) (p : Nat) (k : Int) (ma : Option Addr) (n cap : Nat) : Prop := ∃ (F : Nat → Prop) (M : Nat → Option Rk) (O : Nat → Int) (E : Nat → En), Hl w0 w p k F n M ∧ Rw w w0.heap.size F (.slice ma n cap) n O E ∧ Hs E n M

/-- All deeds that came in. -/
def DdsIn (w : World) (b off N : Nat) (q : Nat → Deed) : Prop := ∀ i, i < N → w.cell? ⟨b, off + i * 6, none⟩ = some (.int .i64 (q i).o) ∧ w.cell? ⟨b, off + i * 6 + 1, none⟩ = some (.int .i64 (q i).s) ∧ w.cell? ⟨b, off + i * 6 + 2, none⟩ = some (.int .i64 (q i).r.d) ∧ w.cell? ⟨b, off + i * 6 + 3, none⟩ = some (.int .i64 (q i).r.b) ∧ w.cell? ⟨b, off + i * 6 + 4, none⟩ = some (.int .i64 (q i).r.g) ∧ w.cell? ⟨b, off + i * 6 + 5, none⟩ = some (.int .i64 (q i).r.i)
theorem dds_of {w : World} {b off N : Nat} {q : Nat → Deed} (h : ∀ i, i < N → ∀ j, j < 6 → w.cell? ⟨b, off + i * 6 + j, none⟩ = (deedCells (q i))[j]?) : DdsIn w b off N q := fun i hi =>
  ⟨by simpa [deedCells] using h i hi 0 (by omega), by simpa [deedCells] using h i hi 1 (by omega), by simpa [deedCells] using h i hi 2 (by omega), by simpa [deedCells] using h i hi 3 (by omega), by simpa [deedCells] using h i hi 4 (by omega), by simpa [deedCells] using h i hi 5 (by omega)⟩
theorem DdsIn.keep {w w' : World} {b off N : Nat} {q : Nat → Deed} (h : DdsIn w b off N q) (hb : b < w.heap.size) (k : Below w.heap.size w w') : DdsIn w' b off N q := fun i hi => by
  have e := k.block b hb
  obtain ⟨a0, a1, a2, a3, a4, a5⟩ := h i hi
  exact ⟨(World.cell?_of_block e).trans a0, (World.cell?_of_block e).trans a1, (World.cell?_of_block e).trans a2, (World.cell?_of_block e).trans a3, (World.cell?_of_block e).trans a4, (World.cell?_of_block e).trans a5⟩

/-- The state within a round: the heap, the row, the deed's box. -/
structure Pl (w0 w : World) (p : Nat) (k : Int) (F : Nat → Prop) (n : Nat) (M : Nat → Option Rk) (mv : Value) (rn : Nat) (O : Nat → Int) (E : Nat → En) (B : Nat) (o s : Int) (r : Rk) : Prop where
  hl : Hl w0 w p k F n M
  rw_ : Rw w w0.heap.size F mv rn O E
  bx : BoxD w B o s r
  nB : ¬ F B
  mB : mv.ownBlock ≠ some B
  bB : w0.heap.size ≤ B
section
variable {w0 w w' : World} {p : Nat} {k : Int} {F F' : Nat → Prop} {n n' : Nat} {M M' : Nat → Option Rk} {mv : Value} {rn : Nat} {O : Nat → Int} {E : Nat → En} {B : Nat} {o s : Int} {r : Rk}
theorem Pl.gr (h : Pl w0 w p k F n M mv rn O E B o s r) (g : Gr w w') : Pl w0 w' p k F n M mv rn O E B o s r :=
  { h with hl := h.hl.gr g, rw_ := h.rw_.gr g, bx := h.bx.ke g (fun x => x) }
theorem Pl.next (h : Pl w0 w p k F n M mv rn O E B o s r) (a : Hl w0 w' p k F' n' M') (v : Sv F F' w w') : Pl w0 w' p k F' n' M' mv rn O E B o s r :=
  { hl := a, rw_ := h.rw_.sv v, bx := h.bx.ke v.ke h.nB, mB := h.mB, bB := h.bB
    nB := fun q => by
      have : B < w.heap.size := lt_of_cell h.bx.b0
      rcases v.ft B q with e | e
      · exact h.nB e
      · omega }
/-- A round's end. -/
theorem Pl.done {ma : Option Addr} {cap : Nat} (h : Pl w0 w p k F n M (.slice ma n cap) n O E B o s r) (hs : Hs E n M) : Inv w0 w p k ma n cap := ⟨F, M, O, E, h.hl, h.rw_, hs⟩
theorem Pl.start {ma : Option Addr} {cap : Nat} (h : Hl w0 w p k F n M) (q : Rw w w0.heap.size F (.slice ma n cap) n O E) :
    Pl w0 (w.alloc (.cells #[.int .i64 o, .int .i64 s, .int .i64 r.d, .int .i64 r.b, .int .i64 r.g, .int .i64 r.i] 29)) p k F n M (.slice ma n cap) n O E w.heap.size o s r := by
  have g : Gr w (w.alloc (.cells #[.int .i64 o, .int .i64 s, .int .i64 r.d, .int .i64 r.b, .int .i64 r.g, .int .i64 r.i] 29)) := (Ke.refl _ _).alloc _
  refine { hl := h.gr g, rw_ := q.gr g, bx := ⟨by simp [go_sem], by simp [go_sem], by simp [go_sem], by simp [go_sem], by simp [go_sem], by simp [go_sem]⟩, nB := fun x => ?_, mB := fun x => ?_, bB := h.below.size }
  · have := (h.st.lt x).2; omega
  · have := (q.row.lt x).2; omega
end

theorem Row.mono {w : World} {base base' : Nat} {e : TypeId} {size : Nat} {v : Value} {n : Nat} {f : Nat → Value} (h : Row w base e size v n f) (hb : base' ≤ base) : Row w base' e size v n f := by
  refine ⟨h.1, ?_⟩
  rcases h.2 with q | ⟨g, cap, cur, h1, h2, h3⟩
  · exact .inl q
  · exact .inr ⟨g, cap, cur, h1, Nat.le_trans hb h2, h3⟩
/-- The deed pushed behind the row. -/
theorem pl_push {w0 W : World} {p : Nat} {k : Int} {F : Nat → Prop} {n : Nat} {M' : Nat → Option Rk} {ma : Option Addr} {cap : Nat} {O : Nat → Int} {E : Nat → En} {B : Nat} {o : Int} {s : Nat} {r : Rk} (h : Pl w0 W p k F (n + 1) M' (.slice ma n cap) n O E B o s r) (hs : Hs (upd E n ⟨s, r⟩) (n + 1) M') (hn : n ≤ 300) :
    ∃ ma' cap' w1, (∀ ty, (Builtin.append_ #[22, 22] ty #[.slice ma n cap, .slice (some ⟨W.heap.size, 0, none⟩) 1 1]).run Try.prog (W.alloc (.cells #[.int .i64 o, .int .i64 s, .int .i64 r.d, .int .i64 r.b, .int .i64 r.g, .int .i64 r.i] 29)) = .ok (.slice ma' (n + 1) cap') w1) ∧ Inv w0 w1 p k ma' (n + 1) cap' := by
  have hA := h.gr ((Ke.refl _ W).alloc (.cells #[.int .i64 o, .int .i64 s, .int .i64 r.d, .int .i64 r.b, .int .i64 r.g, .int .i64 r.i] 29))
  obtain ⟨v', w1, hr, hrow, hg, ha⟩ := rw_append _ _ _ n O E hA.rw_.row ⟨W.heap.size, 0, none⟩ 1 1 (fun _ => o) (fun _ => ⟨s, r⟩) (fun j hj => by
    have e : (⟨W.heap.size, 0, none⟩ : Addr).add j = ⟨W.heap.size, j, none⟩ := by unfold Addr.add; split <;> simp_all
    rw [e, cell_of_row _ _ _ _ _ _ (heap_alloc_new W _)]
    rcases (show j = 0 ∨ j = 1 ∨ j = 2 ∨ j = 3 ∨ j = 4 ∨ j = 5 by omega) with rfl | rfl | rfl | rfl | rfl | rfl <;> rfl) (by omega) hA.hl.below.size
  obtain ⟨ma', cap', rfl, _, _⟩ := hrow.slice
  refine ⟨ma', cap', w1, hr, F, M', upd O n o, upd E n ⟨s, r⟩, ?_, ⟨?_, fun g hg' q => ?_⟩, hs⟩
  · refine hA.hl.other (G := fun j => (Value.slice ma n cap).ownBlock = some j) ((Ke.refl _ _).grown hg (fun j hj => .inl hj)) (fun j hj q => h.rw_.ap j q hj) (fun j q => (h.rw_.row.lt q).1)
  · refine hrow.congr (fun j hj => ?_)
    unfold dc
    dsimp only
    by_cases e : j / 6 < n
    · rw [if_pos e, if_pos e, upd_other _ _ (by omega), upd_other _ _ (by omega)]
    · have : j / 6 = n := by omega
      rw [if_neg e, if_neg e, this, upd_same, upd_same]
  · rcases ha with e | e
    · rw [e] at hg'; exact h.rw_.ap g hg' q
    · rw [e] at hg'
      have e2 := Option.some.inj hg'
      have := (h.hl.st.lt q).2
      simp at e2
      omega
/-- The rank of one turned. -/
theorem pl_put {w0 W : World} {p : Nat} {k : Int} {F : Nat → Prop} {n : Nat} {M' : Nat → Option Rk} {g cap : Nat} {O : Nat → Int} {E : Nat → En} {B : Nat} {o s : Int} {r : Rk} (h : Pl w0 W p k F n M' (.slice (some ⟨g, 0, none⟩) n cap) n O E B o s r) (c : Nat) (hs : Hs (upd E c ⟨(E c).s, r⟩) n M') :
    Inv w0 ((((W.setCell ⟨g, c * 6 + 2, none⟩ (.int .i64 r.d)).setCell ⟨g, c * 6 + 3, none⟩ (.int .i64 r.b)).setCell ⟨g, c * 6 + 4, none⟩ (.int .i64 r.g)).setCell ⟨g, c * 6 + 5, none⟩ (.int .i64 r.i)) p k (some ⟨g, 0, none⟩) n cap := by
  refine ⟨F, M', O, _, ?_, h.rw_.put c r, hs⟩
  refine h.hl.other (G := fun j => j = g) ?_ (fun j hj q => h.rw_.ap g rfl (by rw [← q]; exact hj)) (fun j q => by rw [q]; exact (h.rw_.row.lt (g := g) rfl).1)
  repeat (first | with_reducible exact Ke.refl _ _ | with_reducible refine Ke.set ?_ (.inl (by simp)) _)
/-- One cut out of the row. -/
theorem pl_cut {w0 W : World} {p : Nat} {k : Int} {F : Nat → Prop} {n : Nat} {M' : Nat → Option Rk} {g cap : Nat} {O : Nat → Int} {E : Nat → En} (hl : Hl w0 W p k F n M') (hr : Rw W w0.heap.size F (.slice (some ⟨g, 0, none⟩) (n + 1) cap) (n + 1) O E) (c : Nat) (hc : c < n + 1) (hs : Hs (cut E c) n M') (hn : n ≤ 300)
    (A2 : Addr) (hA : ∀ j, j < (n - c) * 6 → A2.add j = ⟨g, (c + 1) * 6 + j, none⟩) (c2 : Nat) :
    ∃ v1 w1 ma' cap' w2, (∀ ty, (Builtin.append_ #[22, 22] ty #[.slice (some ⟨W.heap.size, 0, none⟩) 0 0, .slice (some ⟨g, 0, none⟩) c cap]).run Try.prog (W.drew.alloc (.cells #[] 29)) = .ok v1 w1) ∧
      (∀ ty, (Builtin.append_ #[22, 22] ty #[v1, .slice (some A2) (n - c) c2]).run Try.prog w1 = .ok (.slice ma' n cap') w2) ∧ Inv w0 w2 p k ma' n cap' := by
  have g1 : Gr W (W.drew.alloc (.cells #[] 29)) := (Ke.refl _ W).drew.alloc _
  have hl1 := hl.gr g1
  have hr1 := hr.gr g1
  have r0 : Row (W.drew.alloc (.cells #[] 29)) W.heap.size 29 6 (.slice (some ⟨W.heap.size, 0, none⟩) 0 0) 0 (dc O E) := by
    have := World.ownsRow_lit (base := W.heap.size) (e := 29) (size := 6) W.drew #[] 0 (Nat.le_refl _) (by unfold maxLen; omega) rfl
    unfold Row
    simpa using this
  have lg := (hr.row.lt (g := g) rfl).2
  obtain ⟨v1, w1, q1, row1, gb1, at1⟩ := rw_append _ _ _ 0 O E r0 ⟨g, 0, none⟩ c cap O E (fun j hj => by
    have e : (⟨g, 0, none⟩ : Addr).add j = ⟨g, j, none⟩ := by unfold Addr.add; split <;> simp_all
    rw [e]; exact hr1.row.cell j (by omega)) (by omega) (by simp)
  have k1 : Ke (fun j => j = W.heap.size) (W.drew.alloc (.cells #[] 29)) w1 := (Ke.refl _ _).grown gb1 (fun j hj => .inl (by simpa [Value.ownBlock] using hj.symm))
  have hr2 : Row w1 w0.heap.size 29 6 (.slice (some ⟨g, 0, none⟩) (n + 1) cap) (n + 1) (dc O E) := hr1.row.keep (fun x hx => k1.block x (hr1.row.lt hx).2 (fun e => by
    have : x = g := by simpa [Value.ownBlock] using hx.symm
    omega))
  have sz1 : W.heap.size ≤ w1.heap.size := Nat.le_trans g1.size k1.size
  obtain ⟨v2, w2, q2, row2, gb2, at2⟩ := rw_append _ _ _ (0 + c) _ _ row1 A2 (n - c) c2 (fun i => O (c + 1 + i)) (fun i => E (c + 1 + i)) (fun j hj => by
    rw [hA j hj, hr2.cell ((c + 1) * 6 + j) (by omega)]
    unfold dc
    rw [show ((c + 1) * 6 + j) / 6 = c + 1 + j / 6 by omega, show ((c + 1) * 6 + j) % 6 = j % 6 by omega]) (by omega) sz1
  rw [show 0 + c + (n - c) = n by omega] at row2
  obtain ⟨ma', cap', rfl, _, _⟩ := row2.slice
  have k2 : Ke (fun j => W.heap.size ≤ j) w1 w2 := (Ke.refl _ _).grown gb2 (fun j hj => .inl (row1.lt hj).1)
  refine ⟨v1, w1, ma', cap', w2, q1, q2, F, M', cut O c, cut E c, ?_, ⟨?_, fun x hx q => ?_⟩, hs⟩
  · have h1 := hl1.other k1 (fun j hj e => by have := (hl.st.lt hj).2; omega) (fun j e => by rw [e]; exact hl.below.size)
    exact h1.other k2 (fun j hj e => by have := (hl.st.lt hj).2; omega) (fun j e => Nat.le_trans hl.below.size e)
  · have row3 : Row w2 w0.heap.size 29 6 (.slice ma' n cap') n _ := row2.mono hl.below.size
    refine row3.congr (fun j hj => ?_)
    unfold dc
    dsimp only
    by_cases e : j / 6 < 0 + c
    · rw [if_pos e, if_pos e, if_neg (by omega), if_neg (by omega)]
      simp only [cut]
      rw [if_pos (by omega), if_pos (by omega)]
      simp
    · rw [if_neg e, if_neg e]
      simp only [cut]
      rw [if_neg (by omega), if_neg (by omega), show c + 1 + (j / 6 - (0 + c)) = j / 6 + 1 by omega]
  · have := (row2.lt hx).1
    have := (hl.st.lt q).2
    omega
end Go.Proofs.Ytfbgjlfepnbcgaa
