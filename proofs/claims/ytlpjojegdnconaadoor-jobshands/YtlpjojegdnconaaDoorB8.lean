/- The chains of a calendar in memory: the rows of links, the map of heads; contracts of first, take, lead. -/
import Derived.Test.YtlpjojegdnconaaDoorN6
import Derived.Test.YtlpjojegdnconaaDoorA8
import Derived.Maps.OwnSet
import Derived.Maps.OwnOps
namespace Go.Proofs.YtlpjojegdnconaaDoor.Ca
open Go.RowKit Go.Lib Go.Maps
set_option linter.unusedVariables false
set_option maxRecDepth 100000

/-! ### the map of heads -/
/-- The map holds the heads; who has none is not there. -/
structure MapH (D : DataW Unit) (H : Int → Nat) : Prop where
  has : ∀ x : Int, Maps.has D (.int .i64 x) = true ↔ H x ≠ 0
  at_ : ∀ x : Int, D.atKey (.int .i64 x) (.lit (.int .i64 0)) = .lit (.int .i64 (H x))
theorem lit_ne {x y : Int} (h : x ≠ y) : (Lit.int .i64 x) ≠ (Lit.int .i64 y) := fun e => h (by cases e; rfl)
theorem keyLit (x : Int) : WideAt.IsKeyLit (Lit.int .i64 x) := by trivial
theorem MapH.put {D : DataW Unit} {H : Int → Nat} (h : MapH D H) (hD : IsMap D) (x : Int) {m : Nat} (hm : m ≠ 0) : MapH (D.put (.int .i64 x) (.lit (.int .i64 m))) (updI H x m) := by
  refine ⟨fun y => ?_, fun y => ?_⟩
  · by_cases e : y = x
    · subst e
      rw [updI_same]
      exact ⟨fun _ => hm, fun _ => has_put_same hD (keyLit y) _⟩
    · rw [has_put_other (lit_ne e), updI_other _ _ e]
      exact h.has y
  · by_cases e : y = x
    · subst e
      rw [updI_same]
      exact atKey_put_same hD (keyLit y) _ _
    · rw [atKey_put_other (lit_ne e), updI_other _ _ e]
      exact h.at_ y
theorem MapH.del {D : DataW Unit} {H : Int → Nat} (h : MapH D H) (x : Int) : MapH (D.del (.int .i64 x)) (updI H x 0) := by
  refine ⟨fun y => ?_, fun y => ?_⟩
  · by_cases e : y = x
    · subst e
      rw [updI_same, has_del_same]
      exact ⟨fun q => (by cases q), fun q => absurd rfl q⟩
    · rw [has_del_other (lit_ne e), updI_other _ _ e]
      exact h.has y
  · by_cases e : y = x
    · subst e
      rw [updI_same, atKey_del_same]
      rfl
    · rw [atKey_del_other (lit_ne e), updI_other _ _ e]
      exact h.at_ y
theorem MapH.start : MapH (.map []) (fun _ => 0) := ⟨fun x => by simp [Maps.has], fun x => by
  rw [atKey_of_not_has (by simp [Maps.has])]; rfl⟩

theorem law3 : Keyed Tryd.prog 3 := int_keyed Tryd.underlying3
theorem zero3 (w : World) : (zeroValue 3).run Tryd.prog w = .ok (.int .i64 0) w := by kernel_rfl
theorem ownsMap_tight {w : World} {b n : Nat} {D : DataW Unit} (h : w.ownsMap Tryd.prog 3 (plainElem Tryd.prog 3) b n D) : w.ownsMap Tryd.prog 3 (plainElem Tryd.prog 3) b (Maps.size D) D := by
  obtain ⟨es, cl, h1, h2, h3, h4⟩ := h
  refine ⟨es, cl, h1, h2, ?_, h4⟩
  rw [h4, size_eq, length_read]
  exact Nat.le_refl _
theorem ownsMap_lt {w : World} {b n : Nat} {D : DataW Unit} (h : w.ownsMap Tryd.prog 3 (plainElem Tryd.prog 3) b n D) : b < w.heap.size := by
  obtain ⟨es, cl, h1, h2⟩ := h
  exact (Array.getElem?_eq_some_iff.1 h1).1
theorem ownsMap_keep {w w' : World} {b n : Nat} {D : DataW Unit} (h : w.ownsMap Tryd.prog 3 (plainElem Tryd.prog 3) b n D) (e : w'.heap[b]? = w.heap[b]?) : w'.ownsMap Tryd.prog 3 (plainElem Tryd.prog 3) b n D := by
  obtain ⟨es, cl, h1, h2⟩ := h
  exact ⟨es, cl, e.trans h1, h2⟩

/-! ### the links -/
/-- The cells of the links. -/
def lc (P X : Nat → Nat) (j : Nat) : Value := .int .i64 ((if j % 2 = 0 then P (j / 2) else X (j / 2) : Nat) : Int)
theorem lc_setP (P X : Nat → Nat) (i a : Nat) : lc (upd P i a) X = upd (lc P X) (i * 2) (.int .i64 (a : Nat)) := by
  funext j
  unfold lc
  by_cases q : j = i * 2
  · subst q
    rw [upd_same, if_pos (by omega), show i * 2 / 2 = i by omega, upd_same]
  · rw [upd_other _ _ q]
    by_cases e : j % 2 = 0
    · rw [if_pos e, if_pos e, upd_other _ _ (by omega)]
    · rw [if_neg e, if_neg e]
theorem lc_setX (P X : Nat → Nat) (i a : Nat) : lc P (upd X i a) = upd (lc P X) (i * 2 + 1) (.int .i64 (a : Nat)) := by
  funext j
  unfold lc
  by_cases q : j = i * 2 + 1
  · subst q
    rw [upd_same, if_neg (by omega), show (i * 2 + 1) / 2 = i by omega, upd_same]
  · rw [upd_other _ _ q]
    by_cases e : j % 2 = 0
    · rw [if_pos e, if_pos e]
    · rw [if_neg e, if_neg e, upd_other _ _ (by omega)]

/-- Which blocks are the call's own, and what lies ahead of the calendar in its block. -/
structure Bs where
  n : Nat
  lo : Nat → Option Value
instance : Coe Bs Nat := ⟨Bs.n⟩

/-- The blocks of the chains. -/
def FootC (p b : Nat) (lk : Value) (k : Nat) : Prop := k = p ∨ k = b ∨ lk.ownBlock = some k

/-- The chains at block p: the heads' map is block b, the links are lk. -/
structure Cm (w : World) (base : Bs) (p b : Nat) (lk : Value) (N free : Nat) (P X : Nat → Nat) (H : Int → Nat) (D : DataW Unit) (c : Nat) : Prop where
  bp : base ≤ p
  bb : base ≤ b
  nc : N ≤ c + 1
  c6 : c ≤ 65536
  c0 : w.cell? ⟨p, 68, none⟩ = some (.map (some b))
  c1 : w.cell? ⟨p, 69, none⟩ = some lk
  c2 : w.cell? ⟨p, 70, none⟩ = some (.int .i64 (free : Nat))
  fz : ∀ o, w.frozen? ⟨p, o, none⟩ = false
  row : Row w base 124 2 lk N (lc P X)
  own : w.ownsMap Tryd.prog 3 (plainElem Tryd.prog 3) b (Maps.size D) D
  map : MapH D H
  sz : Maps.size D ≤ c
  pb : p ≠ b
  lp : lk.ownBlock ≠ some p
  lb : lk.ownBlock ≠ some b
  lo : ∀ o, o < 68 → w.cell? ⟨p, o, none⟩ = base.lo o
section
variable {w w' : World} {base : Bs} {p b : Nat} {lk : Value} {N free : Nat} {P X : Nat → Nat} {H : Int → Nat} {D : DataW Unit} {c : Nat}
theorem Cm.pl (h : Cm w base p b lk N free P X H D c) : p < w.heap.size := lt_of_cell h.c0
theorem Cm.lt (h : Cm w base p b lk N free P X H D c) {g : Nat} (hg : FootC p b lk g) : base ≤ g ∧ g < w.heap.size := by
  rcases hg with rfl | rfl | hg
  · exact ⟨h.bp, h.pl⟩
  · exact ⟨h.bb, ownsMap_lt h.own⟩
  · exact h.row.lt hg
theorem Cm.keep (h : Cm w base p b lk N free P X H D c) (q : ∀ g, FootC p b lk g → w'.heap[g]? = w.heap[g]?) : Cm w' base p b lk N free P X H D c :=
  { h with
    c0 := (World.cell?_of_block (q p (.inl rfl))).trans h.c0, c1 := (World.cell?_of_block (q p (.inl rfl))).trans h.c1, c2 := (World.cell?_of_block (q p (.inl rfl))).trans h.c2
    fz := fun o => (World.frozen?_of_block (a := ⟨p, o, none⟩) (q p (.inl rfl))).trans (h.fz o)
    lo := fun o ho => (World.cell?_of_block (a := ⟨p, o, none⟩) (q p (.inl rfl))).trans (h.lo o ho)
    row := h.row.keep (fun g hg => q g (.inr (.inr hg)))
    own := ownsMap_keep h.own (q b (.inr (.inl rfl))) }
theorem Cm.ke {F : Nat → Prop} (h : Cm w base p b lk N free P X H D c) (q : Ke F w w') (hF : ∀ g, FootC p b lk g → ¬ F g) : Cm w' base p b lk N free P X H D c := h.keep (fun g hg => q.block g (h.lt hg).2 (hF g hg))
theorem Cm.gr (h : Cm w base p b lk N free P X H D c) (q : Gr w w') : Cm w' base p b lk N free P X H D c := h.ke q (fun _ _ x => x)
theorem Cm.more (h : Cm w base p b lk N free P X H D c) {c' : Nat} (hc : c ≤ c') (h6 : c' ≤ 65536) : Cm w base p b lk N free P X H D c' := { h with nc := by have := h.nc; omega, c6 := h6, sz := Nat.le_trans h.sz hc }
/-- The first free one turned. -/
theorem Cm.setF (h : Cm w base p b lk N free P X H D c) (f : Nat) {y : Int} (hy : y = (f : Int)) : Cm (w.setCell ⟨p, 70, none⟩ (.int .i64 y)) base p b lk N f P X H D c := by
  subst hy
  exact { h with
    c0 := (World.cell?_setCell_other w _ _ _ (fun q => by cases q)).trans h.c0
    c1 := (World.cell?_setCell_other w _ _ _ (fun q => by cases q)).trans h.c1
    c2 := World.cell?_setCell_same w _ _ h.c2
    fz := fun o => by simpa using h.fz o
    lo := fun o ho => (World.cell?_setCell_other w _ _ _ (fun q => by cases q; omega)).trans (h.lo o ho)
    row := h.row.keep (fun x hx => blk_other _ _ _ _ _ (fun e => h.lp (by rw [hx, e])))
    own := ownsMap_keep h.own (blk_other _ _ _ _ _ (Ne.symm h.pb)) }
/-- The links turned. -/
theorem Cm.setRow {g cap : Nat} {P' X' : Nat → Nat} (h : Cm w base p b (.slice (some ⟨g, 0, none⟩) N cap) N free P X H D c) (hb : ∀ j, j ≠ g → w'.heap[j]? = w.heap[j]?) (ht : Row w' base 124 2 (.slice (some ⟨g, 0, none⟩) N cap) N (lc P' X')) :
    Cm w' base p b (.slice (some ⟨g, 0, none⟩) N cap) N free P' X' H D c := by
  have hpg : p ≠ g := fun e => h.lp (by simp [Value.ownBlock, e])
  have hbg : b ≠ g := fun e => h.lb (by simp [Value.ownBlock, e])
  have ep := hb p hpg
  exact { h with
    c0 := (World.cell?_of_block ep).trans h.c0, c1 := (World.cell?_of_block ep).trans h.c1, c2 := (World.cell?_of_block ep).trans h.c2
    fz := fun o => (World.frozen?_of_block (a := ⟨p, o, none⟩) ep).trans (h.fz o)
    lo := fun o ho => (World.cell?_of_block (a := ⟨p, o, none⟩) ep).trans (h.lo o ho)
    row := ht
    own := ownsMap_keep h.own (hb b hbg) }
theorem Cm.setP {g cap : Nat} (h : Cm w base p b (.slice (some ⟨g, 0, none⟩) N cap) N free P X H D c) (i a : Nat) {y : Int} (hy : y = (a : Int)) :
    Cm (w.setCell ⟨g, i * 2, none⟩ (.int .i64 y)) base p b (.slice (some ⟨g, 0, none⟩) N cap) N free (upd P i a) X H D c := by
  subst hy
  refine h.setRow (fun j hj => blk_other _ _ _ _ _ hj) ?_
  rw [lc_setP]; exact h.row.set _ _
theorem Cm.setX {g cap : Nat} (h : Cm w base p b (.slice (some ⟨g, 0, none⟩) N cap) N free P X H D c) (i a : Nat) {y : Int} (hy : y = (a : Int)) :
    Cm (w.setCell ⟨g, i * 2 + 1, none⟩ (.int .i64 y)) base p b (.slice (some ⟨g, 0, none⟩) N cap) N free P (upd X i a) H D c := by
  subst hy
  refine h.setRow (fun j hj => blk_other _ _ _ _ _ hj) ?_
  rw [lc_setX]; exact h.row.set _ _
theorem link_cells {g cap : Nat} (h : Row w base 124 2 (.slice (some ⟨g, 0, none⟩) N cap) N (lc P X)) (i : Nat) (hi : i < N) :
    w.cell? ⟨g, i * 2, none⟩ = some (.int .i64 (P i)) ∧ w.cell? ⟨g, i * 2 + 1, none⟩ = some (.int .i64 (X i)) := by
  have a := h.cell (i * 2) (by omega)
  have b := h.cell (i * 2 + 1) (by omega)
  unfold lc at a b
  rw [if_pos (by omega), show i * 2 / 2 = i by omega] at a
  rw [if_neg (by omega), show (i * 2 + 1) / 2 = i by omega] at b
  exact ⟨a, b⟩
/-- The map turned. -/
theorem Cm.setM {D' : DataW Unit} {H' : Int → Nat} {n : Nat} (h : Cm w base p b lk N free P X H D c) (t : w.mapTurned w' b) (o : w'.ownsMap Tryd.prog 3 (plainElem Tryd.prog 3) b n D') (m : MapH D' H') (hs : Maps.size D' ≤ c) : Cm w' base p b lk N free P X H' D' c := by
  have g := t.grown
  have hb : ∀ j, j < w.heap.size → j ≠ b → w'.heap[j]? = w.heap[j]? := fun j hj hn => g.block j hj (by simpa using hn)
  have ep := hb p h.pl h.pb
  exact { h with
    c0 := (World.cell?_of_block ep).trans h.c0, c1 := (World.cell?_of_block ep).trans h.c1, c2 := (World.cell?_of_block ep).trans h.c2
    fz := fun o => (World.frozen?_of_block (a := ⟨p, o, none⟩) ep).trans (h.fz o)
    lo := fun o ho => (World.cell?_of_block (a := ⟨p, o, none⟩) ep).trans (h.lo o ho)
    row := h.row.keep (fun x hx => hb x (h.row.lt hx).2 (fun e => h.lb (by rw [hx, e])))
    own := ownsMap_tight o, map := m, sz := hs }
theorem turned_ke {F : Nat → Prop} (t : w.mapTurned w' b) (hF : F b) : Ke F w w' := (Ke.refl F w).grown t.grown (fun k e => by cases e; exact .inl hF)
/-- The links are another row. -/
theorem Cm.put1 {w1 : World} {lk' : Value} {N' : Nat} {P' X' : Nat → Nat} (h : Cm w base p b lk N free P X H D c) (g : w.grownBy w1 lk.ownBlock) (r : Row w1 base 124 2 lk' N' (lc P' X')) (hl : N' ≤ c + 1) (a : lk'.ownBlock = lk.ownBlock ∨ lk'.ownBlock = some w.heap.size) :
    Cm (w1.setCell ⟨p, 69, none⟩ lk') base p b lk' N' free P' X' H D c ∧ Ke (FootC p b lk) w (w1.setCell ⟨p, 69, none⟩ lk') ∧ w1.cell? ⟨p, 68, none⟩ = some (.map (some b)) ∧ w1.cell? ⟨p, 69, none⟩ = some lk ∧ w1.cell? ⟨p, 70, none⟩ = some (.int .i64 (free : Nat)) ∧ w1.frozen? ⟨p, 69, none⟩ = false ∧ (∀ o, (o < 68 ∨ 71 ≤ o) → (w1.setCell ⟨p, 69, none⟩ lk').cell? ⟨p, o, none⟩ = w.cell? ⟨p, o, none⟩) := by
  have hp := h.pl
  have ep : w1.heap[p]? = w.heap[p]? := g.block p hp (own_ne h.lp)
  have hbl := ownsMap_lt h.own
  have eb : w1.heap[b]? = w.heap[b]? := g.block b hbl (own_ne h.lb)
  have lp' : lk'.ownBlock ≠ some p := by
    rcases a with a | a
    · rw [a]; exact h.lp
    · rw [a]; intro e; cases e; omega
  have lb' : lk'.ownBlock ≠ some b := by
    rcases a with a | a
    · rw [a]; exact h.lb
    · rw [a]; intro e; cases e; omega
  have c0 : w1.cell? ⟨p, 68, none⟩ = some (.map (some b)) := (World.cell?_of_block (a := ⟨p, 68, none⟩) ep).trans h.c0
  have c1 : w1.cell? ⟨p, 69, none⟩ = some lk := (World.cell?_of_block (a := ⟨p, 69, none⟩) ep).trans h.c1
  have c2 : w1.cell? ⟨p, 70, none⟩ = some (.int .i64 (free : Nat)) := (World.cell?_of_block (a := ⟨p, 70, none⟩) ep).trans h.c2
  have fz : ∀ o, w1.frozen? ⟨p, o, none⟩ = false := fun o => (World.frozen?_of_block (a := ⟨p, o, none⟩) ep).trans (h.fz o)
  refine ⟨?_, ?_, c0, c1, c2, fz 69, fun o ho => (World.cell?_setCell_other w1 _ _ _ (fun q => by cases q; omega)).trans (World.cell?_of_block (a := ⟨p, o, none⟩) ep)⟩
  · exact {
      bp := h.bp, bb := h.bb, nc := hl, c6 := h.c6, map := h.map, sz := h.sz, pb := h.pb
      c0 := (World.cell?_setCell_other w1 _ _ _ (fun q => by cases q)).trans c0
      c1 := World.cell?_setCell_same w1 _ _ c1
      c2 := (World.cell?_setCell_other w1 _ _ _ (fun q => by cases q)).trans c2
      fz := fun o => by simpa using fz o
      lo := fun o ho => (World.cell?_setCell_other w1 _ _ _ (fun q => by cases q; omega)).trans ((World.cell?_of_block (a := ⟨p, o, none⟩) ep).trans (h.lo o ho))
      row := r.keep (fun x hx => blk_other _ _ _ _ _ (fun e => lp' (by rw [hx, e])))
      own := ownsMap_keep (ownsMap_keep h.own eb) (blk_other _ _ _ _ _ (Ne.symm h.pb))
      lp := lp', lb := lb' }
  · exact ((Ke.refl _ w).grown g (fun x hx => .inl (.inr (.inr hx)))).set (.inl (.inl rfl)) _
end

theorem info124 : ∃ i, Tryd.prog.info? 124 = some i ∧ i.size = 2 ∧ i.bytes = 16 ∧ i.zero = some (.agg #[.int .i64 0, .int .i64 0]) := by
  have h1 : (Tryd.prog.info? 124).map (·.size) = some 2 := by kernel_rfl
  have h2 : (Tryd.prog.info? 124).map (·.bytes) = some 16 := by kernel_rfl
  have h3 : (Tryd.prog.info? 124).map (·.zero) = some (some (.agg #[.int .i64 0, .int .i64 0])) := by kernel_rfl
  cases h : Tryd.prog.info? 124 with
  | none => rw [h] at h1; cases h1
  | some i =>
    rw [h] at h1 h2 h3
    exact ⟨i, rfl, by simpa using h1, by simpa using h2, by simpa using h3⟩

/-! ### first -/
end Go.Proofs.YtlpjojegdnconaaDoor.Ca
