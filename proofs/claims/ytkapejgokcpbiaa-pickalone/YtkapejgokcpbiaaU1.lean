/- pick: the contract of the document's Best. -/
import Derived.Test.YtkapejgokcpbiaaT9
import Derived.Laws.MakeOwn
namespace Go.Proofs.Ytkapejgokcpbiaa
open Go.RowKit Go.Lib
set_option linter.unusedVariables false
set_option maxRecDepth 100000
set_option maxHeartbeats 2000000

theorem info4 : ∃ i, Try.prog.info? 4 = some i ∧ i.size = 1 ∧ i.bytes = 1 ∧ i.zero = some (.bool false) := by
  have h1 : (Try.prog.info? 4).map (·.size) = some 1 := by kernel_rfl
  have h2 : (Try.prog.info? 4).map (·.bytes) = some 1 := by kernel_rfl
  have h3 : (Try.prog.info? 4).map (·.zero) = some (some (.bool false)) := by kernel_rfl
  cases h : Try.prog.info? 4 with
  | none => rw [h] at h1; cases h1
  | some i =>
    rw [h] at h1 h2 h3
    exact ⟨i, rfl, by simpa using h1, by simpa using h2, by simpa using h3⟩
theorem made_bools (c : Nat) : madeCells (Value.cells (.bool false)) c = Array.replicate c (.bool false) := by
  refine Array.ext (by simp [madeCells]) fun i h1 h2 => ?_
  simp [madeCells, Value.cells, Nat.mod_one]
theorem make63 (N : Nat) (hN : N ≤ 65536) (w : World) : (Instr.makeSlice 63 (.int .i64 (N : Int)) (.int .i64 (N : Int))).run Try.prog w = .ok (.slice (some ⟨w.heap.size, 0, none⟩) N N) (w.alloc (.cells (Array.replicate N (.bool false)) 4)) := by
  obtain ⟨i, hi, h1, h2, h3⟩ := info4
  have h := run_make w 63 4 i _ Try.underlying63 hi h3 .i64 .i64 N N (by omega) (by omega) (by rw [h2]; omega) (by omega)
  rw [h1, Int.toNat_natCast, Nat.mul_one, made_bools] at h
  exact h

/-- A row of bools at block ub. -/
structure Us (W : World) (ub N : Nat) (U : Nat → Bool) : Prop where
  cell : ∀ i, i < N → W.cell? ⟨ub, i, none⟩ = some (.bool (U i))
  fz : ∀ o, W.frozen? ⟨ub, o, none⟩ = false
  lt : ub < W.heap.size
section
variable {W W' : World} {ub N : Nat} {U : Nat → Bool}
theorem Us.ke {F : Nat → Prop} (h : Us W ub N U) (k : Ke F W W') (hF : ¬ F ub) : Us W' ub N U :=
  ⟨fun i hi => (k.cell (p := ⟨ub, i, none⟩) h.lt hF).trans (h.cell i hi), fun o => (k.frozen (p := ⟨ub, o, none⟩) h.lt hF).trans (h.fz o), Nat.lt_of_lt_of_le h.lt k.size⟩
theorem Us.set (h : Us W ub N U) {a : Nat} (ha : a < N) : Us (W.setCell ⟨ub, a, none⟩ (.bool true)) ub N (upd U a true) := by
  refine ⟨fun i hi => ?_, fun o => by simpa using h.fz o, by simpa [World.setCell] using h.lt⟩
  by_cases q : i = a
  · subst q; rw [upd_same]; exact World.cell?_setCell_same W _ _ (h.cell i hi)
  · rw [upd_other _ _ q]; exact (World.cell?_setCell_other W _ _ _ (fun z => q (by cases z; rfl))).trans (h.cell i hi)
theorem us_new (w : World) (N : Nat) : Us (w.alloc (.cells (Array.replicate N (.bool false)) 4)) w.heap.size N (fun _ => false) := by
  refine ⟨fun i hi => ?_, fun o => by simp, by simp⟩
  rw [cell_of_row _ _ _ _ _ _ (heap_alloc_new w _)]
  simp [hi]
end
/-- An index, -1 for none. -/
def atZ (o : Option Nat) : Int := match o with
  | none => -1
  | some a => (a : Int)
section
variable {key : Nat → Rk} {R : Nat → Bool} {n a : Nat}
theorem fst_no (h : R n = false) : fstI key R (n + 1) = fstI key R n := by
  simp only [fstI, h]
  cases fstI key R n <;> simp
theorem fst_new (h : R n = true) (e : fstI key R n = none) : fstI key R (n + 1) = some n := by
  simp [fstI, h, e]
theorem fst_less (h : R n = true) (e : fstI key R n = some a) (q : lessB (key n) (key a) = true) : fstI key R (n + 1) = some n := by
  simp [fstI, h, e, q]
theorem fst_more (h : R n = true) (e : fstI key R n = some a) (q : lessB (key n) (key a) = false) : fstI key R (n + 1) = some a := by
  simp [fstI, h, e, q]
end
/-- The state of a round. -/
structure Ro (w W : World) (ub N : Nat) (l : Nat → Tk) (c : Int) (ea : Bool) (k : Nat) (v : Value) (L : List Nat) (R U : Nat → Bool) : Prop where
  gr : Gr w W
  us : Us W ub N U
  row : RowI W w.heap.size v (L.map fun a => (l a).id)
  nb : v.ownBlock ≠ some ub
  ru : ∀ i, R i = (cndB l c ea i && !U i)
  rch : Rch (fun j => rkT (l j)) N (cndB l c ea) L R
  wb : w.heap.size ≤ ub
  lk : L.length ≤ k
  ln : L.length + cnB R N ≤ N
section
variable {w W W' : World} {ub N : Nat} {l : Nat → Tk} {c : Int} {ea : Bool} {k : Nat} {v : Value} {L : List Nat} {R U : Nat → Bool}
theorem Ro.gr' (h : Ro w W ub N l c ea k v L R U) (g : Gr W W') : Ro w W' ub N l c ea k v L R U :=
  { h with gr := h.gr.trans g, us := h.us.ke g (fun q => q), row := rowI_gr h.row g }
theorem Ro.done (h : Ro w W ub N l c ea k v L R U) (e : L.length = k ∨ fstI (fun j => rkT (l j)) R N = none) : IdsP w (bestI l N c k ea) (.returned v) W := by
  have : bst (fun j => rkT (l j)) N k (cndB l c ea) = L := by
    rcases e with rfl | e
    · exact h.rch.done
    · exact h.rch.none e h.lk
  unfold bestI
  rw [this]
  exact ⟨v, rfl, h.row, h.gr⟩
theorem ro_start (w : World) (N : Nat) (l : Nat → Tk) (c : Int) (ea : Bool) (k : Nat) : Ro w (w.alloc (.cells (Array.replicate N (.bool false)) 4)) w.heap.size N l c ea k (.slice none 0 0) [] (cndB l c ea) (fun _ => false) :=
  { gr := (Ke.refl _ _).alloc _
    us := us_new w N
    row := rowI_nil _ _
    nb := by simp [Value.ownBlock]
    ru := fun i => by simp
    rch := Rch.start _ _ _
    wb := Nat.le_refl _
    lk := Nat.zero_le _
    ln := by have := cnB_le (cndB l c ea) N; simpa using this }
/-- One more is chosen. -/
theorem Ro.step (h : Ro w W ub N l c ea k v L R U) {a : Nat} (e : fstI (fun j => rkT (l j)) R N = some a) (hk : L.length < k) (hN : N ≤ 65536) :
    ∃ v' w1, (∀ ty, (Builtin.append_ #[37, 37] ty #[v, .slice (some ⟨W.heap.size, 0, none⟩) 1 1]).run Try.prog ((W.setCell ⟨ub, a, none⟩ (.bool true)).alloc (.cells #[.int .i64 (l a).id] 3)) = .ok v' w1) ∧ Ro w w1 ub N l c ea k v' (L ++ [a]) (upd R a false) (upd U a true) := by
  obtain ⟨ha, hR⟩ := fstI_in e
  have hcut := cnB_cut ha hR
  have kS : Ke (fun j => j = ub) W (W.setCell ⟨ub, a, none⟩ (.bool true)) := (Ke.refl (fun j => j = ub) W).set (p := ⟨ub, a, none⟩) (.inl rfl) _
  have hsz : (W.setCell ⟨ub, a, none⟩ (.bool true)).heap.size = W.heap.size := by simp [World.setCell]
  have row1 : RowI (W.setCell ⟨ub, a, none⟩ (.bool true)) w.heap.size v (L.map fun a => (l a).id) := rowI_keep h.row kS (fun j hj q => h.nb (by rw [hj, q]))
  have hl := h.ln
  obtain ⟨v', w1, hr, hg, row, hb⟩ := row_more row1 (by rw [hsz]; exact h.gr.size) (by rw [List.length_map]; omega) (l a).id
  rw [hsz] at hr hb
  have K : Ke (fun j => v.ownBlock = some j) (W.setCell ⟨ub, a, none⟩ (.bool true)) w1 := ((Ke.refl _ _).alloc _).grown hg (fun j hj => .inl hj)
  refine ⟨v', w1, hr, ?_⟩
  have hub := h.us.lt
  exact {
    gr := by
      refine (h.gr.comp kS (fun j hj q => by have := h.wb; omega)).comp K (fun j hj q => by have := (Row.lt row1 q).1; omega)
    us := (h.us.set ha).ke K h.nb
    row := by rw [List.map_append, List.map_singleton]; exact row
    nb := fun q => by
      rcases hb with z | z
      · rw [z] at q; exact h.nb q
      · rw [z] at q; have := Option.some.inj q; omega
    ru := fun i => by
      unfold upd
      by_cases q : i = a
      · simp [q]
      · simp [q, h.ru i]
    rch := h.rch.step e
    wb := h.wb
    lk := by rw [List.length_append, List.length_singleton]; omega
    ln := by rw [List.length_append, List.length_singleton]; omega }
end
end Go.Proofs.Ytkapejgokcpbiaa
