/- What the law SlotsPlay keeps beside the table: ids by slot, and which slots are taken. -/
import Derived.Test.YtfhnjknlehecgaaDoorR7
import Derived.Deep.DeepCutAuto
import Derived.Deep.CutBlock
namespace Go.Proofs.YtfhnjknlehecgaaDoor
open Go.RowKit Go.Lib Go.Maps Go.Sort
set_option linter.unusedVariables false

theorem info4 : ∃ i, Tryd.prog.info? 4 = some i ∧ i.size = 1 ∧ i.bytes = 1 ∧ i.zero = some (.bool false) := by
  have h1 : (Tryd.prog.info? 4).map (·.size) = some 1 := by kernel_rfl
  have h2 : (Tryd.prog.info? 4).map (·.bytes) = some 1 := by kernel_rfl
  have h3 : (Tryd.prog.info? 4).map (·.zero) = some (some (.bool false)) := by kernel_rfl
  cases h : Tryd.prog.info? 4 with
  | none => rw [h] at h1; cases h1
  | some i =>
    rw [h] at h1 h2 h3
    exact ⟨i, rfl, by simpa using h1, by simpa using h2, by simpa using h3⟩
theorem made_bools (c : Nat) : madeCells (Value.cells (.bool false)) c = Array.replicate c (.bool false) := by
  refine Array.ext (by simp [madeCells]) fun i h1 h2 => ?_
  simp [madeCells, Value.cells, Nat.mod_one]
theorem make4 (n : Nat) (hc : n ≤ 1000000) (w : World) : (Instr.makeSlice 27 (.int .i64 (n : Int)) (.int .i64 (n : Int))).run Tryd.prog w = .ok (.slice (some ⟨w.heap.size, 0, none⟩) n n) (w.alloc (.cells (Array.replicate n (.bool false)) 4)) := by
  obtain ⟨i, hi, h1, h2, h3⟩ := info4
  have h := run_make w 27 4 i _ Tryd.underlying27 hi h3 .i64 .i64 n n (by omega) (by omega) (by rw [h2]; omega) (by omega)
  rw [h1, Int.toNat_natCast, Nat.mul_one, made_bools] at h
  exact h

/-- A table beside other blocks that were turned. -/
theorem St.side {w0 w w' : World} {p g bm n a b c : Nat} {A : Nat → Option Int} (h : St w0 w p g bm n A) (k : Kept3 a b c w w') (ha : w0.heap.size ≤ a) (hb : w0.heap.size ≤ b) (hc : w0.heap.size ≤ c)
    (hp : p ≠ a ∧ p ≠ b ∧ p ≠ c) (hg : g ≠ a ∧ g ≠ b ∧ g ≠ c) (hm : bm ≠ a ∧ bm ≠ b ∧ bm ≠ c) : St w0 w' p g bm n A := by
  obtain ⟨D, r⟩ := h.rep
  exact ⟨Below.of_kept3 h.below k ha hb hc, ⟨D, r.keep k.size (k.block _ r.pl hp.1 hp.2.1 hp.2.2) (k.block _ r.gl hg.1 hg.2.1 hg.2.2) (k.block _ r.ml hm.1 hm.2.1 hm.2.2)⟩, h.bp, h.bg, h.bb, h.tab⟩

/-- The table, the ids by slot (block a), which slots are taken (block o). -/
structure Play (w0 w : World) (p g bm k : Nat) (A : Nat → Option Int) (a o : Nat) : Prop where
  st : St w0 w p g bm k A
  al : a < w.heap.size
  ol : o < w.heap.size
  ab : w0.heap.size ≤ a
  ob : w0.heap.size ≤ o
  ap : a ≠ p ∧ a ≠ g ∧ a ≠ bm
  op : o ≠ p ∧ o ≠ g ∧ o ≠ bm
  ao : a ≠ o
  ids : ∀ s, s < k → ∃ v, w.cell? ⟨a, s, none⟩ = some (.int .i64 v) ∧ ∀ x, A s = some x → v = x
  on : ∀ s, s < k → w.cell? ⟨o, s, none⟩ = some (.bool (A s).isSome)
  az : ∀ s, w.frozen? ⟨a, s, none⟩ = false
  oz : ∀ s, w.frozen? ⟨o, s, none⟩ = false

theorem Play.start {w0 w : World} {p g bm k : Nat} (h : St w0 w p g bm k (fun _ => none)) : Play w0 ((w.alloc (.cells (Array.replicate k (.int .i64 0)) 3)).alloc (.cells (Array.replicate k (.bool false)) 4)) p g bm k (fun _ => none) w.heap.size (w.heap.size + 1) := by
  have hs := h.below.size
  obtain ⟨D, r⟩ := h.rep
  have h1 := r.pl; have h2 := r.gl; have h3 := r.ml
  have b1 := (World.grownBy_alloc w (.cells (Array.replicate k (.int .i64 0)) 3) none)
  have b2 := (World.grownBy_alloc (w.alloc (.cells (Array.replicate k (.int .i64 0)) 3)) (.cells (Array.replicate k (.bool false)) 4) none)
  have s1 : (w.alloc (.cells (Array.replicate k (.int .i64 0)) 3)).heap.size = w.heap.size + 1 := by simp
  have e1 : ((w.alloc (.cells (Array.replicate k (.int .i64 0)) 3)).alloc (.cells (Array.replicate k (.bool false)) 4)).heap[w.heap.size]? = some (.cells (Array.replicate k (.int .i64 0)) 3 (0, 0)) :=
    (b2.block w.heap.size (by simp) (by simp)).trans (MapKept.heap_alloc w _).1
  have e2 : ((w.alloc (.cells (Array.replicate k (.int .i64 0)) 3)).alloc (.cells (Array.replicate k (.bool false)) 4)).heap[w.heap.size + 1]? = some (.cells (Array.replicate k (.bool false)) 4 (0, 0)) := by
    have := (MapKept.heap_alloc (w.alloc (.cells (Array.replicate k (.int .i64 0)) 3)) (.cells (Array.replicate k (.bool false)) 4)).1
    rwa [s1] at this
  have kk : ∀ j, j < w.heap.size → ((w.alloc (.cells (Array.replicate k (.int .i64 0)) 3)).alloc (.cells (Array.replicate k (.bool false)) 4)).heap[j]? = w.heap[j]? := fun j hj => (b2.block j (by simp; omega) (by simp)).trans (b1.block j hj (by simp))
  refine ⟨⟨((h.below.alloc hs _).alloc (by simp; omega) _), ⟨D, r.keep (by simp; omega) (kk _ h1) (kk _ h2) (kk _ h3)⟩, h.bp, h.bg, h.bb, h.tab⟩, by simp; omega, by simp, hs, by omega, by omega, by omega, by omega, fun s hs => ⟨0, by simp only [World.cell?, e1]; simp [hs], fun x hx => (by cases hx)⟩, fun s hs => by simp only [World.cell?, e2]; simp [hs], fun s => by simp only [World.frozen?, e1]; simp, fun s => by simp only [World.frozen?, e2]; simp⟩

/-- What stays where the table's blocks alone were turned. -/
theorem Play.keep {w0 w w' : World} {p g bm k a o : Nat} {A : Nat → Option Int} (h : Play w0 w p g bm k A a o) (kk : Kept3 p g bm w w') (s : St w0 w' p g bm k A) : Play w0 w' p g bm k A a o := by
  have ea := kk.block a h.al h.ap.1 h.ap.2.1 h.ap.2.2
  have eo := kk.block o h.ol h.op.1 h.op.2.1 h.op.2.2
  exact ⟨s, Nat.lt_of_lt_of_le h.al kk.size, Nat.lt_of_lt_of_le h.ol kk.size, h.ab, h.ob, h.ap, h.op, h.ao,
    fun t ht => by obtain ⟨v, h1, h2⟩ := h.ids t ht; exact ⟨v, (World.cell?_of_block (a := ⟨a, t, none⟩) ea).trans h1, h2⟩,
    fun t ht => (World.cell?_of_block (a := ⟨o, t, none⟩) eo).trans (h.on t ht), fun t => (World.frozen?_of_block (a := ⟨a, t, none⟩) ea).trans (h.az t), fun t => (World.frozen?_of_block (a := ⟨o, t, none⟩) eo).trans (h.oz t)⟩

/-- .. where nothing of it was turned. -/
theorem Play.grow {w0 w w' : World} {p g bm k a o : Nat} {A : Nat → Option Int} (h : Play w0 w p g bm k A a o) (b : Below w.heap.size w w') : Play w0 w' p g bm k A a o := by
  have kk : Kept3 p g bm w w' := ⟨b.os, b.tape, b.output, b.size, fun j hj _ _ _ => b.block j hj⟩
  obtain ⟨D, r⟩ := h.st.rep
  exact h.keep kk (h.st.turn kk (r.keep b.size (b.block _ r.pl) (b.block _ r.gl) (b.block _ r.ml)))

/-- A slot taken: the table first, then both rows. -/
theorem Play.put {w0 w w' : World} {p g bm k a o m : Nat} {x : Int} {A : Nat → Option Int} (h : Play w0 w p g bm k A a o) (kk : Kept3 p g bm w w') (s : St w0 w' p g bm k (upd A m (some x))) (hm : m < k) :
    Play w0 ((w'.setCell ⟨o, m, none⟩ (.bool true)).setCell ⟨a, m, none⟩ (.int .i64 x)) p g bm k (upd A m (some x)) a o := by
  have ea := kk.block a h.al h.ap.1 h.ap.2.1 h.ap.2.2
  have eo := kk.block o h.ol h.op.1 h.op.2.1 h.op.2.2
  have T1 : Turn o w' (w'.setCell ⟨o, m, none⟩ (.bool true)) := (Turn.refl o w').set _ _
  have T2 : Turn a (w'.setCell ⟨o, m, none⟩ (.bool true)) ((w'.setCell ⟨o, m, none⟩ (.bool true)).setCell ⟨a, m, none⟩ (.int .i64 x)) := (Turn.refl a _).set _ _
  have K : Kept3 o a a w' ((w'.setCell ⟨o, m, none⟩ (.bool true)).setCell ⟨a, m, none⟩ (.int .i64 x)) := (T1.kept3 a a).trans (T2.keptg o a)
  have hap := h.ap; have hop := h.op; have hao := h.ao
  have co : ∀ t, t < k → w'.cell? ⟨o, t, none⟩ = some (.bool (A t).isSome) := fun t ht => (World.cell?_of_block (a := ⟨o, t, none⟩) eo).trans (h.on t ht)
  refine ⟨s.side K h.ob h.ab h.ab ⟨Ne.symm hop.1, Ne.symm hap.1, Ne.symm hap.1⟩ ⟨Ne.symm hop.2.1, Ne.symm hap.2.1, Ne.symm hap.2.1⟩ ⟨Ne.symm hop.2.2, Ne.symm hap.2.2, Ne.symm hap.2.2⟩,
    Nat.lt_of_lt_of_le h.al (Nat.le_trans kk.size K.size), Nat.lt_of_lt_of_le h.ol (Nat.le_trans kk.size K.size), h.ab, h.ob, h.ap, h.op, h.ao, fun t ht => ?_, fun t ht => ?_, fun t => ?_, fun t => ?_⟩
  · obtain ⟨v, h1, h2⟩ := h.ids t ht
    have c1 : (w'.setCell ⟨o, m, none⟩ (.bool true)).cell? ⟨a, t, none⟩ = some (.int .i64 v) := (World.cell?_setCell_other w' _ _ _ (fun e => hao (by cases e; rfl))).trans ((World.cell?_of_block (a := ⟨a, t, none⟩) ea).trans h1)
    by_cases e : t = m
    · subst e
      exact ⟨x, World.cell?_setCell_same _ _ _ c1, fun y hy => by rw [upd_same] at hy; exact Option.some.inj hy⟩
    · exact ⟨v, (World.cell?_setCell_other _ _ _ _ (fun q => e (by cases q; rfl))).trans c1, fun y hy => by rw [upd_other _ _ e] at hy; exact h2 y hy⟩
  · have c2 : ((w'.setCell ⟨o, m, none⟩ (.bool true)).setCell ⟨a, m, none⟩ (.int .i64 x)).cell? ⟨o, t, none⟩ = (w'.setCell ⟨o, m, none⟩ (.bool true)).cell? ⟨o, t, none⟩ := World.cell?_setCell_other _ _ _ _ (fun e => hao (by cases e; rfl))
    rw [c2]
    by_cases e : t = m
    · subst e
      rw [upd_same]; exact World.cell?_setCell_same _ _ _ (co t ht)
    · rw [upd_other _ _ e, World.cell?_setCell_other w' _ _ _ (fun q => e (by cases q; rfl))]; exact co t ht
  · simp only [World.frozen?_setCell]; exact (World.frozen?_of_block (a := ⟨a, t, none⟩) ea).trans (h.az t)
  · simp only [World.frozen?_setCell]; exact (World.frozen?_of_block (a := ⟨o, t, none⟩) eo).trans (h.oz t)

/-- A slot freed. -/
theorem Play.drop {w0 w w' : World} {p g bm k a o m : Nat} {A : Nat → Option Int} (h : Play w0 w p g bm k A a o) (kk : Kept3 p g bm w w') (s : St w0 w' p g bm k (upd A m none)) (hm : m < k) :
    Play w0 (w'.setCell ⟨o, m, none⟩ (.bool false)) p g bm k (upd A m none) a o := by
  have ea := kk.block a h.al h.ap.1 h.ap.2.1 h.ap.2.2
  have eo := kk.block o h.ol h.op.1 h.op.2.1 h.op.2.2
  have T1 : Turn o w' (w'.setCell ⟨o, m, none⟩ (.bool false)) := (Turn.refl o w').set _ _
  have K : Kept3 o o o w' (w'.setCell ⟨o, m, none⟩ (.bool false)) := T1.kept3 o o
  have hap := h.ap; have hop := h.op; have hao := h.ao
  have co : ∀ t, t < k → w'.cell? ⟨o, t, none⟩ = some (.bool (A t).isSome) := fun t ht => (World.cell?_of_block (a := ⟨o, t, none⟩) eo).trans (h.on t ht)
  refine ⟨s.side K h.ob h.ob h.ob ⟨Ne.symm hop.1, Ne.symm hop.1, Ne.symm hop.1⟩ ⟨Ne.symm hop.2.1, Ne.symm hop.2.1, Ne.symm hop.2.1⟩ ⟨Ne.symm hop.2.2, Ne.symm hop.2.2, Ne.symm hop.2.2⟩,
    Nat.lt_of_lt_of_le h.al (Nat.le_trans kk.size K.size), Nat.lt_of_lt_of_le h.ol (Nat.le_trans kk.size K.size), h.ab, h.ob, h.ap, h.op, h.ao, fun t ht => ?_, fun t ht => ?_, fun t => ?_, fun t => ?_⟩
  · obtain ⟨v, h1, h2⟩ := h.ids t ht
    refine ⟨v, (World.cell?_setCell_other w' _ _ _ (fun e => hao (by cases e; rfl))).trans ((World.cell?_of_block (a := ⟨a, t, none⟩) ea).trans h1), fun y hy => ?_⟩
    by_cases e : t = m
    · subst e; rw [upd_same] at hy; cases hy
    · rw [upd_other _ _ e] at hy; exact h2 y hy
  · by_cases e : t = m
    · subst e
      rw [upd_same]; exact World.cell?_setCell_same _ _ _ (co t ht)
    · rw [upd_other _ _ e, World.cell?_setCell_other w' _ _ _ (fun q => e (by cases q; rfl))]; exact co t ht
  · simp only [World.frozen?_setCell]; exact (World.frozen?_of_block (a := ⟨a, t, none⟩) ea).trans (h.az t)
  · simp only [World.frozen?_setCell]; exact (World.frozen?_of_block (a := ⟨o, t, none⟩) eo).trans (h.oz t)

/-! ### the search, plain -/
/-- What the search from above has found down to t. -/
structure Fnd (A : Nat → Option Int) (x : Int) (k t : Nat) (sl fr : Int) : Prop where
  sl : (sl = -1 ∧ ∀ s, t ≤ s → A s ≠ some x) ∨ ∃ s : Nat, t ≤ s ∧ sl = s ∧ A s = some x
  fr : (fr = -1 ∧ ∀ s, t ≤ s → s < k → A s ≠ none) ∨ ∃ m : Nat, t ≤ m ∧ m < k ∧ fr = m ∧ A m = none ∧ ∀ s, t ≤ s → s < m → A s ≠ none
theorem Fnd.start {A : Nat → Option Int} {x : Int} {k : Nat} (ho : ∀ s, k ≤ s → A s = none) : Fnd A x k k (-1) (-1) :=
  ⟨.inl ⟨rfl, fun s hs => by rw [ho s hs]; simp⟩, .inl ⟨rfl, fun s h1 h2 => by omega⟩⟩
theorem Fnd.free {A : Nat → Option Int} {x : Int} {k t : Nat} {sl fr : Int} (h : Fnd A x k (t + 1) sl fr) (ht : t < k) (e : A t = none) : Fnd A x k t sl t := by
  refine ⟨?_, .inr ⟨t, Nat.le_refl _, ht, rfl, e, fun s h1 h2 => by omega⟩⟩
  rcases h.sl with ⟨h1, h2⟩ | ⟨s, h1, h2, h3⟩
  · refine .inl ⟨h1, fun s hs => ?_⟩
    by_cases q : s = t
    · subst q; rw [e]; simp
    · exact h2 s (by omega)
  · exact .inr ⟨s, by omega, h2, h3⟩
theorem Fnd.skip {A : Nat → Option Int} {x y : Int} {k t : Nat} {sl fr : Int} (h : Fnd A x k (t + 1) sl fr) (e : A t = some y) (hy : y ≠ x) : Fnd A x k t sl fr := by
  refine ⟨?_, ?_⟩
  · rcases h.sl with ⟨h1, h2⟩ | ⟨s, h1, h2, h3⟩
    · refine .inl ⟨h1, fun s hs => ?_⟩
      by_cases q : s = t
      · subst q; rw [e]; simpa using hy
      · exact h2 s (by omega)
    · exact .inr ⟨s, by omega, h2, h3⟩
  · rcases h.fr with ⟨h1, h2⟩ | ⟨m, h1, h2, h3, h4, h5⟩
    · refine .inl ⟨h1, fun s hs hk => ?_⟩
      by_cases q : s = t
      · subst q; rw [e]; simp
      · exact h2 s (by omega) hk
    · refine .inr ⟨m, by omega, h2, h3, h4, fun s hs hk => ?_⟩
      by_cases q : s = t
      · subst q; rw [e]; simp
      · exact h5 s (by omega) hk
theorem Fnd.hit {A : Nat → Option Int} {x : Int} {k t : Nat} {sl fr : Int} (h : Fnd A x k (t + 1) sl fr) (e : A t = some x) : Fnd A x k t t fr := by
  refine ⟨.inr ⟨t, Nat.le_refl _, rfl, e⟩, ?_⟩
  rcases h.fr with ⟨h1, h2⟩ | ⟨m, h1, h2, h3, h4, h5⟩
  · refine .inl ⟨h1, fun s hs hk => ?_⟩
    by_cases q : s = t
    · subst q; rw [e]; simp
    · exact h2 s (by omega) hk
  · refine .inr ⟨m, by omega, h2, h3, h4, fun s hs hk => ?_⟩
    by_cases q : s = t
    · subst q; rw [e]; simp
    · exact h5 s (by omega) hk
end Go.Proofs.YtfhnjknlehecgaaDoor
