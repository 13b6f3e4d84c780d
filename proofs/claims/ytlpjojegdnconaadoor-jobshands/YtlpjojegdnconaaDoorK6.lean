/- The heap: contract of add. -/
import Derived.Test.YtlpjojegdnconaaDoorJ6
namespace Go.Proofs.YtlpjojegdnconaaDoor.Ca
open Go.RowKit Go.Lib
set_option linter.unusedVariables false

section
variable {w w1 : World} {base p : Nat} {k : Int} {v u : Value} {n : Nat} {T : Nat → En} {L : Nat} {S : Nat → Nat}
theorem own_ne {x : Nat} {y : Option Nat} (h : y ≠ some x) : some x ≠ y := fun e => h e.symm
/-- The spots turned to a row that lies where they lay, or in new memory. -/
theorem Mem.put2 {u' : Value} {L' : Nat} {S' : Nat → Nat} (h : Mem w base p k v u n T L S) (g : w.grownBy w1 u.ownBlock) (r : Row w1 base 21 1 u' L' (sc S')) (hl : L' ≤ 65536) (a : u'.ownBlock = u.ownBlock ∨ u'.ownBlock = some w.heap.size) :
    Mem (w1.setCell ⟨p, 2, none⟩ u') base p k v u' n T L' S' ∧ Ke (Foot p v u) w (w1.setCell ⟨p, 2, none⟩ u') ∧ w1.cell? ⟨p, 0, none⟩ = some (.int .i64 k) ∧ w1.cell? ⟨p, 1, none⟩ = some v ∧ w1.cell? ⟨p, 2, none⟩ = some u ∧ w1.frozen? ⟨p, 2, none⟩ = false := by
  have hp := h.pl
  have ep : w1.heap[p]? = w.heap[p]? := g.block p hp (own_ne h.pu)
  have pu' : u'.ownBlock ≠ some p := by
    rcases a with a | a
    · rw [a]; exact h.pu
    · rw [a]; intro e; cases e; omega
  have vu' : ∀ x, v.ownBlock = some x → u'.ownBlock ≠ some x := fun x hx => by
    rcases a with a | a
    · rw [a]; exact h.vu x hx
    · rw [a]; intro e; cases e
      have := (h.tr.lt hx).2; omega
  have c0 : w1.cell? ⟨p, 0, none⟩ = some (.int .i64 k) := (World.cell?_of_block (a := ⟨p, 0, none⟩) ep).trans h.c0
  have c1 : w1.cell? ⟨p, 1, none⟩ = some v := (World.cell?_of_block (a := ⟨p, 1, none⟩) ep).trans h.c1
  have c2 : w1.cell? ⟨p, 2, none⟩ = some u := (World.cell?_of_block (a := ⟨p, 2, none⟩) ep).trans h.c2
  have fz : ∀ o, w1.frozen? ⟨p, o, none⟩ = false := fun o => (World.frozen?_of_block (a := ⟨p, o, none⟩) ep).trans (h.fz o)
  refine ⟨?_, ?_, c0, c1, c2, fz 2⟩
  · exact {
      bp := h.bp, n6 := h.n6, l6 := hl
      c0 := (World.cell?_setCell_other w1 _ _ _ (fun q => by cases q)).trans c0
      c1 := (World.cell?_setCell_other w1 _ _ _ (fun q => by cases q)).trans c1
      c2 := World.cell?_setCell_same w1 _ _ c2
      fz := fun o => by simpa using fz o
      tr := (h.tr.keep (fun x hx => g.block x (h.tr.lt hx).2 (own_ne (h.vu x hx)))).keep (fun x hx => blk_other _ _ _ _ _ (fun e => h.pv (by rw [hx, e])))
      sp := r.keep (fun x hx => blk_other _ _ _ _ _ (fun e => pu' (by rw [hx, e])))
      pv := h.pv, pu := pu', vu := vu' }
  · exact ((Ke.refl _ w).grown g (fun x hx => .inl (.inr (.inr hx)))).set (.inl (.inl rfl)) _
/-- .. the tree. -/
theorem Mem.put1 {v' : Value} {n' : Nat} {T' : Nat → En} (h : Mem w base p k v u n T L S) (g : w.grownBy w1 v.ownBlock) (r : Row w1 base 128 5 v' n' (ec T')) (hl : n' ≤ 65536) (a : v'.ownBlock = v.ownBlock ∨ v'.ownBlock = some w.heap.size) :
    Mem (w1.setCell ⟨p, 1, none⟩ v') base p k v' u n' T' L S ∧ Ke (Foot p v u) w (w1.setCell ⟨p, 1, none⟩ v') ∧ w1.cell? ⟨p, 0, none⟩ = some (.int .i64 k) ∧ w1.cell? ⟨p, 1, none⟩ = some v ∧ w1.cell? ⟨p, 2, none⟩ = some u ∧ w1.frozen? ⟨p, 1, none⟩ = false := by
  have hp := h.pl
  have ep : w1.heap[p]? = w.heap[p]? := g.block p hp (own_ne h.pv)
  have pv' : v'.ownBlock ≠ some p := by
    rcases a with a | a
    · rw [a]; exact h.pv
    · rw [a]; intro e; cases e; omega
  have vu' : ∀ x, v'.ownBlock = some x → u.ownBlock ≠ some x := fun x hx e => by
    rcases a with a | a
    · rw [a] at hx; exact h.vu x hx e
    · rw [a] at hx; cases hx
      have := (h.sp.lt e).2; omega
  have c0 : w1.cell? ⟨p, 0, none⟩ = some (.int .i64 k) := (World.cell?_of_block (a := ⟨p, 0, none⟩) ep).trans h.c0
  have c1 : w1.cell? ⟨p, 1, none⟩ = some v := (World.cell?_of_block (a := ⟨p, 1, none⟩) ep).trans h.c1
  have c2 : w1.cell? ⟨p, 2, none⟩ = some u := (World.cell?_of_block (a := ⟨p, 2, none⟩) ep).trans h.c2
  have fz : ∀ o, w1.frozen? ⟨p, o, none⟩ = false := fun o => (World.frozen?_of_block (a := ⟨p, o, none⟩) ep).trans (h.fz o)
  refine ⟨?_, ?_, c0, c1, c2, fz 1⟩
  · exact {
      bp := h.bp, n6 := hl, l6 := h.l6
      c0 := (World.cell?_setCell_other w1 _ _ _ (fun q => by cases q)).trans c0
      c1 := World.cell?_setCell_same w1 _ _ c1
      c2 := (World.cell?_setCell_other w1 _ _ _ (fun q => by cases q)).trans c2
      fz := fun o => by simpa using fz o
      tr := r.keep (fun x hx => blk_other _ _ _ _ _ (fun e => pv' (by rw [hx, e])))
      sp := (h.sp.keep (fun x hx => g.block x (h.sp.lt hx).2 (fun e => h.vu x e.symm hx))).keep (fun x hx => blk_other _ _ _ _ _ (fun e => h.pu (by rw [hx, e])))
      pv := pv', pu := h.pu, vu := vu' }
  · exact ((Ke.refl _ w).grown g (fun x hx => .inl (.inr (.inl hx)))).set (.inl (.inl rfl)) _

theorem info21 : ∃ i, Tryd.prog.info? 21 = some i ∧ i.size = 1 ∧ i.bytes = 4 ∧ i.zero = some (.int .i32 0) := by
  have h1 : (Tryd.prog.info? 21).map (·.size) = some 1 := by kernel_rfl
  have h2 : (Tryd.prog.info? 21).map (·.bytes) = some 4 := by kernel_rfl
  have h3 : (Tryd.prog.info? 21).map (·.zero) = some (some (.int .i32 0)) := by kernel_rfl
  cases h : Tryd.prog.info? 21 with
  | none => rw [h] at h1; cases h1
  | some i =>
    rw [h] at h1 h2 h3
    exact ⟨i, rfl, by simpa using h1, by simpa using h2, by simpa using h3⟩
theorem info128 : ∃ i, Tryd.prog.info? 128 = some i ∧ i.size = 5 ∧ i.bytes = 40 ∧ i.zero = some (.agg #[.int .i64 0, .int .i64 0, .int .i64 0, .int .i64 0, .int .i64 0]) := by
  have h1 : (Tryd.prog.info? 128).map (·.size) = some 5 := by kernel_rfl
  have h2 : (Tryd.prog.info? 128).map (·.bytes) = some 40 := by kernel_rfl
  have h3 : (Tryd.prog.info? 128).map (·.zero) = some (some (.agg #[.int .i64 0, .int .i64 0, .int .i64 0, .int .i64 0, .int .i64 0])) := by kernel_rfl
  cases h : Tryd.prog.info? 128 with
  | none => rw [h] at h1; cases h1
  | some i =>
    rw [h] at h1 h2 h3
    exact ⟨i, rfl, by simpa using h1, by simpa using h2, by simpa using h3⟩

/-- The spots, k more of nought. -/
def Sz (S : Nat → Nat) (L : Nat) (i : Nat) : Nat := if i < L then S i else 0

theorem spots_more (h : Mem w base p k v u n T L S) (m : Nat) (h0 : 0 < m) (hm : L + m ≤ 65536) : ∃ u' w1, (Builtin.append_ #[136, 3] 136 #[u, .int .i64 m]).run Tryd.prog w = .ok u' w1 ∧ w.grownBy w1 u.ownBlock ∧ Row w1 base 21 1 u' (L + m) (sc (Sz S L)) ∧ (u'.ownBlock = u.ownBlock ∨ u'.ownBlock = some w.heap.size) := by
  obtain ⟨i, hi, h1, h2, h3⟩ := info21
  obtain ⟨u', w1, hr, ho, hg, ha⟩ := append_zeros_own (P := Tryd.prog) w base 136 3 136 21 i (.int .i32 0) .i64 .i64 Tryd.underlying136 Tryd.underlying3 hi h3 h1 rfl rfl u L _ h.sp m h0 hm (by omega) (by have := h.bp; have := h.pl; omega)
  refine ⟨u', w1, hr, hg, ?_, ha⟩
  unfold Row
  rw [Nat.mul_one] at ho ⊢
  rw [show (List.range (L + m)).map (sc (Sz S L)) = (List.range L).map (sc S) ++ List.replicate m (.int .i32 0) from ?_]
  · exact ho
  · refine List.ext_getElem (by simp) fun j a b => ?_
    simp only [List.getElem_map, List.getElem_range, List.getElem_append, List.length_map, List.length_range, List.getElem_replicate]
    split
    · simp [sc, Sz, *]
    · simp [sc, Sz, *]

theorem tree_more (h : Mem w base p k v u n T L S) (hn : n + 1 ≤ 65536) (a : Addr) (hc : ∀ j x, ([.int .i64 0, .int .i64 0, .int .i64 0, .int .i64 0, .int .i64 0] : List Value)[j]? = some x → w.cell? (a.add j) = some x) : ∃ v' w1, (Builtin.append_ #[135, 135] 135 #[v, .slice (some a) 1 1]).run Tryd.prog w = .ok v' w1 ∧ w.grownBy w1 v.ownBlock ∧ Row w1 base 128 5 v' (n + 1) (ec (upd T n ⟨0, 0, 0, 0, 0⟩)) ∧ (v'.ownBlock = v.ownBlock ∨ v'.ownBlock = some w.heap.size) := by
  obtain ⟨i, hi, h1, h2, h3⟩ := info128
  obtain ⟨v', w1, hr, ho, hg, ha⟩ := append_own_at (P := Tryd.prog) w base 135 135 128 i _ 5 40 Tryd.underlying135 hi h3 h1 h2 rfl (by omega) v n _ h.tr a 1 1 [.int .i64 0, .int .i64 0, .int .i64 0, .int .i64 0, .int .i64 0] (by omega) rfl hc (by intro x hx; simp at hx; rw [hx]; rfl) (by unfold maxLen; omega) (by omega) (by have := h.bp; have := h.pl; omega)
  refine ⟨v', w1, hr, hg, ?_, ha⟩
  unfold Row
  rw [show (List.range ((n + 1) * 5)).map (ec (upd T n ⟨0, 0, 0, 0, 0⟩)) = (List.range (n * 5)).map (ec T) ++ [.int .i64 0, .int .i64 0, .int .i64 0, .int .i64 0, .int .i64 0] from ?_]
  · exact ho
  · refine List.ext_getElem (by simp; omega) fun j a b => ?_
    simp only [List.getElem_map, List.getElem_range, List.getElem_append, List.length_map, List.length_range]
    have hj : j < (n + 1) * 5 := by simpa using a
    split
    · rename_i q
      unfold ec
      rw [upd_other _ _ (by omega)]
    · rename_i q
      unfold ec
      rw [show j / 5 = n by omega, upd_same]
      rcases (show j = n * 5 ∨ j = n * 5 + 1 ∨ j = n * 5 + 2 ∨ j = n * 5 + 3 ∨ j = n * 5 + 4 by omega) with e | e | e | e | e <;> subst e <;> simp [cellE, show ∀ o, (n * 5 + o) % 5 = o % 5 from fun o => by omega]
end

/-- What add leaves. -/
def AddP (w : World) (base p : Nat) (k : Int) (v u : Value) (n : Nat) (T : Nat → En) (L : Nat) (S : Nat → Nat) (s : Nat) (x : Ending) (w' : World) : Prop :=
  ∃ v' u' L', x = .returned (.int .i64 (n : Int)) ∧ Mem w' base p k v' u' (n + 1) (upd T n ⟨0, 0, 0, 0, 0⟩) L' (Sz S L) ∧ s < L' ∧ L ≤ L' ∧ Ke (Foot p v u) w w' ∧ ∀ g, Foot p v' u' g → Foot p v u g ∨ w.heap.size ≤ g

end Go.Proofs.YtlpjojegdnconaaDoor.Ca
