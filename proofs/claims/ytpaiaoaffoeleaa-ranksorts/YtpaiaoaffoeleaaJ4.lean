/- Sorted in one way alone; the cells of a row of ranks. -/
import Derived.Test.YtpaiaoaffoeleaaQ4
namespace Go.Proofs.Ytpaiaoaffoeleaa
open Go.Shelf Go.RowKit Go.Lib Go.Sort
set_option linter.unusedVariables false

theorem ris_pairwise {β : Type} [Inhabited β] {T : β → β → Prop} {d : Array β} {n : Nat} (h : Ris T 0 n d) (hn : d.size = n) : d.toList.Pairwise T := by
  rw [List.pairwise_iff_getElem]
  intro i j hi hj hij
  have hi' : i < d.size := by simpa using hi
  have hj' : j < d.size := by simpa using hj
  have := h i j (Nat.zero_le _) hij (by omega)
  rw [getElem!_pos d i hi', getElem!_pos d j hj'] at this
  simpa using this

theorem sorted4_unique {q r : Array Rk} (h : Sorted4 q r) (L : List (Rk × Nat)) (hp : L.Perm (tag q).toList) (hs : L.Pairwise (TT lessB)) : r = (L.map (·.1)).toArray := by
  obtain ⟨d, p, ris, rfl⟩ := h
  have hz : d.size = q.size := p.1.trans (tag_size q)
  have p2 := p.2.2
  rw [show d.extract 0 q.size = d by rw [← hz]; exact Array.extract_size, show (tag q).extract 0 q.size = tag q by rw [← tag_size q]; exact Array.extract_size] at p2
  have e : d.toList = L := by
    refine List.Perm.eq_of_pairwise (le := TT lessB) (fun a b _ _ h1 h2 => ?_) (ris_pairwise ris hz) hs (p2.trans hp.symm)
    have := (swo_ltT swo_less).trans _ _ _ h1 h2
    rw [(swo_ltT swo_less).irrefl] at this
    cases this
  rw [← e]
  exact Array.ext' (by simp)

theorem row_cell {w : World} {B off : Nat} {r : Array Rk} (h : HoldsK encQ 4 w B off r) (i : Nat) (hi : i < r.size) :
    w.cell? ⟨B, off + i * 4, none⟩ = some (.int .i64 r[i]!.d) ∧ w.cell? ⟨B, off + (i * 4 + 1), none⟩ = some (.int .i64 r[i]!.b) ∧ w.cell? ⟨B, off + (i * 4 + 2), none⟩ = some (.int .i64 r[i]!.g) ∧ w.cell? ⟨B, off + (i * 4 + 3), none⟩ = some (.int .i64 r[i]!.i) := by
  have f : ∀ t, t < 4 → w.cell? ⟨B, off + (i * 4 + t), none⟩ = some (encQ r[i]!)[t]! := fun t ht => by
    have hl : i * 4 + t < (flatK encQ 4 r).size := by simp; omega
    have := (h (i * 4 + t) hl).1
    rw [get_flatK encQ 4 r (i * 4 + t) (by omega), show (i * 4 + t) / 4 = i by omega, show (i * 4 + t) % 4 = t by omega] at this
    exact this
  exact ⟨f 0 (by omega), f 1 (by omega), f 2 (by omega), f 3 (by omega)⟩

theorem holdsQ_new (w : World) (q : Array Rk) (t : TypeId) : HoldsK encQ 4 (w.alloc (.cells (flatK encQ 4 q) t)) w.heap.size 0 q := by
  intro j hj
  rw [getElem!_pos _ j hj]
  have h0 : (w.alloc (.cells (flatK encQ 4 q) t)).heap[w.heap.size]? = some (.cells (flatK encQ 4 q) t (0, 0)) := (MapKept.heap_alloc w _).1
  refine ⟨?_, by unfold World.frozen?; rw [h0]; simp⟩
  simp only [World.cell?, h0, Nat.zero_add]
  simp

def q4 : Array Rk := #[⟨105, 0, 0, 1⟩, ⟨105, 1, 108, 7⟩, ⟨104, 0, 0, 99⟩, ⟨105, 1, 109, 9⟩]
theorem q4_sorted {r : Array Rk} (h : Sorted4 q4 r) : r = #[⟨104, 0, 0, 99⟩, ⟨105, 1, 109, 9⟩, ⟨105, 1, 108, 7⟩, ⟨105, 0, 0, 1⟩] :=
  sorted4_unique h [(⟨104, 0, 0, 99⟩, 2), (⟨105, 1, 109, 9⟩, 3), (⟨105, 1, 108, 7⟩, 1), (⟨105, 0, 0, 1⟩, 0)] (by decide) (by unfold TT; decide)

/-- What stands in the sorted row of four. -/
structure Row4 (W : World) (B : Nat) : Prop where
  a0 : W.cell? ⟨B, 0, none⟩ = some (.int .i64 104)
  a1 : W.cell? ⟨B, 1, none⟩ = some (.int .i64 0)
  a2 : W.cell? ⟨B, 2, none⟩ = some (.int .i64 0)
  a3 : W.cell? ⟨B, 3, none⟩ = some (.int .i64 99)
  b0 : W.cell? ⟨B, 4, none⟩ = some (.int .i64 105)
  b1 : W.cell? ⟨B, 5, none⟩ = some (.int .i64 1)
  b2 : W.cell? ⟨B, 6, none⟩ = some (.int .i64 109)
  b3 : W.cell? ⟨B, 7, none⟩ = some (.int .i64 9)
  c0 : W.cell? ⟨B, 8, none⟩ = some (.int .i64 105)
  c1 : W.cell? ⟨B, 9, none⟩ = some (.int .i64 1)
  c2 : W.cell? ⟨B, 10, none⟩ = some (.int .i64 108)
  c3 : W.cell? ⟨B, 11, none⟩ = some (.int .i64 7)
  d0 : W.cell? ⟨B, 12, none⟩ = some (.int .i64 105)
  d1 : W.cell? ⟨B, 13, none⟩ = some (.int .i64 0)
  d2 : W.cell? ⟨B, 14, none⟩ = some (.int .i64 0)
  d3 : W.cell? ⟨B, 15, none⟩ = some (.int .i64 1)

theorem row4 {w W : World} (h : SortedTo w q4 W) : Row4 W w.heap.size ∧ Gr w W := by
  obtain ⟨r, s, _, hh, g⟩ := h
  have e := q4_sorted s
  subst e
  obtain ⟨a0, a1, a2, a3⟩ := row_cell hh 0 (by decide)
  obtain ⟨b0, b1, b2, b3⟩ := row_cell hh 1 (by decide)
  obtain ⟨c0, c1, c2, c3⟩ := row_cell hh 2 (by decide)
  obtain ⟨d0, d1, d2, d3⟩ := row_cell hh 3 (by decide)
  exact ⟨⟨a0, a1, a2, a3, b0, b1, b2, b3, c0, c1, c2, c3, d0, d1, d2, d3⟩, g⟩

theorem sort4 (w : World) (B : Nat) (hB : (w.alloc (.cells (flatK encQ 4 q4) 26)).heap.size = B) :
    Calls Try.prog 14 #[.slice (some ⟨w.heap.size, 0, none⟩) 4 4] (w.alloc (.cells (flatK encQ 4 q4) 26)) fun e w' => e = .returned (.slice (some ⟨B, 0, none⟩) 4 4) ∧ Row4 w' B ∧ Gr (w.alloc (.cells (flatK encQ 4 q4) 26)) w' := by
  subst hB
  exact (sort_some w.heap.size 0 4 q4 _ (holdsQ_new w q4 26) (by simp) (by decide)).mono fun e w' ⟨he, hs⟩ => ⟨he, row4 hs⟩

theorem flat_q4 : flatK encQ 4 q4 = #[.int .i64 105, .int .i64 0, .int .i64 0, .int .i64 1, .int .i64 105, .int .i64 1, .int .i64 108, .int .i64 7, .int .i64 104, .int .i64 0, .int .i64 0, .int .i64 99, .int .i64 105, .int .i64 1, .int .i64 109, .int .i64 9] := by kernel_rfl
end Go.Proofs.Ytpaiaoaffoeleaa
