/- Rows of ranks that grow by append: what each round does to them. -/
import Derived.Test.YtpaiaoaffoeleaaM4
import Derived.Test.YtpaiaoaffoeleaaI4
namespace Go.Proofs.Ytpaiaoaffoeleaa
open Go.Shelf Go.RowKit Go.Lib Go.Sort
set_option linter.unusedVariables false

theorem below_of_gr {B : Nat} {a w w' : World} (h : Below B a w) (g : Gr w w') (hB : B ≤ w.heap.size) : Below B a w' := h.trans (g.below.mono hB)

/-- The ranks that came in: their cells. -/
structure CellsIn (w : World) (b off : Nat) (q : List Rk) : Prop where
  lt : b < w.heap.size
  c0 : ∀ i (h : i < q.length), w.cell? ⟨b, off + i * 4, none⟩ = some (.int .i64 q[i].d)
  c1 : ∀ i (h : i < q.length), w.cell? ⟨b, off + i * 4 + 1, none⟩ = some (.int .i64 q[i].b)
  c2 : ∀ i (h : i < q.length), w.cell? ⟨b, off + i * 4 + 2, none⟩ = some (.int .i64 q[i].g)
  c3 : ∀ i (h : i < q.length), w.cell? ⟨b, off + i * 4 + 3, none⟩ = some (.int .i64 q[i].i)

theorem CellsIn.keep {w w' : World} {b off : Nat} {q : List Rk} {B : Nat} (h : CellsIn w b off q) (hb : Below B w w') (hB : b < B) (hs : w.heap.size ≤ w'.heap.size) : CellsIn w' b off q :=
  ⟨Nat.lt_of_lt_of_le h.lt hs, fun i hi => (hb.cell (p := ⟨b, _, none⟩) hB).trans (h.c0 i hi), fun i hi => (hb.cell (p := ⟨b, _, none⟩) hB).trans (h.c1 i hi), fun i hi => (hb.cell (p := ⟨b, _, none⟩) hB).trans (h.c2 i hi), fun i hi => (hb.cell (p := ⟨b, _, none⟩) hB).trans (h.c3 i hi)⟩

theorem Own.gr {base t : Nat} {w w' : World} {v : Value} {l : List Rk} (h : Own base t w v l) (g : Gr w w') : Own base t w' v l := by
  have gb : w.grownBy w' none := ⟨g.below.os, g.below.tape, g.below.output, g.below.size, fun k hk _ => g.below.block k hk⟩
  refine World.ownsRow.kept h gb ?_
  cases e : v.ownBlock with
  | none => exact .inl rfl
  | some k => exact .inr (by simp)

theorem Own.nil (base t : Nat) (w : World) : Own base t w (.slice none 0 0) [] := World.ownsRow_nil w base t 4

/-- A block of one rank, just laid. -/
theorem cell_four_new (w : World) (x : Rk) (t : TypeId) : ∀ j u, (encQ x)[j]? = some u → (w.alloc (.cells #[.int .i64 x.d, .int .i64 x.b, .int .i64 x.g, .int .i64 x.i] t)).cell? ((⟨w.heap.size, 0, none⟩ : Addr).add j) = some u := by
  intro j u hj
  match j, hj with
  | 0, hj => simp [encQ] at hj; subst hj; simp [Addr.add]
  | 1, hj => simp [encQ] at hj; subst hj; simp [Addr.add]
  | 2, hj => simp [encQ] at hj; subst hj; simp [Addr.add]
  | 3, hj => simp [encQ] at hj; subst hj; simp [Addr.add]
  | j + 4, hj => simp [encQ] at hj

theorem info23 : ∃ i, Try.prog.info? 23 = some i ∧ i.size = 4 ∧ i.bytes = 32 ∧ i.zero = some (.agg #[.int .i64 0, .int .i64 0, .int .i64 0, .int .i64 0]) := by
  have h1 : (Try.prog.info? 23).map (·.size) = some 4 := by kernel_rfl
  have h2 : (Try.prog.info? 23).map (·.bytes) = some 32 := by kernel_rfl
  have h3 : (Try.prog.info? 23).map (·.zero) = some (some (.agg #[.int .i64 0, .int .i64 0, .int .i64 0, .int .i64 0])) := by kernel_rfl
  cases h : Try.prog.info? 23 with
  | none => rw [h] at h1; cases h1
  | some i =>
    rw [h] at h1 h2 h3
    exact ⟨i, rfl, by simpa using h1, by simpa using h2, by simpa using h3⟩

/-- A rank appended: what is owned then. -/
theorem own_snoc {base t : Nat} {w : World} {v : Value} {q : List Rk} {k : Nat} (hk : k < q.length) (h : w.ownsRow base t 4 v (k + 1) (flatL (q.take k) ++ encQ q[k])) : Own base t w v (q.take (k + 1)) := by
  have e1 : q.take (k + 1) = q.take k ++ [q[k]] := List.take_succ_eq_append_getElem hk
  unfold Own
  rw [e1, flatL_append, List.length_append, List.length_take, show min k q.length = k by omega]
  simpa [flatL] using h

/-- What the document's insertion has sorted so far. -/
structure WantAt (q : List Rk) (k : Nat) (W : List (Rk × Nat)) : Prop where
  len : W.length = k
  sorted : W.Pairwise (TT lessB)
  perm : W.Perm ((tag q.toArray).toList.take k)

theorem tag_list (q : List Rk) (k : Nat) (h : k < q.length) : (tag q.toArray).toList.take (k + 1) = (tag q.toArray).toList.take k ++ [(q[k], k)] := by
  have hs : k < (tag q.toArray).toList.length := by simp [tag]; exact h
  rw [List.take_succ_eq_append_getElem hs]
  simp [tag]

theorem WantAt.start (q : List Rk) : WantAt q 0 [] := ⟨rfl, List.Pairwise.nil, by simp⟩

theorem WantAt.tags {q : List Rk} {k : Nat} {W : List (Rk × Nat)} (h : WantAt q k W) : ∀ y ∈ W, y.2 < k := by
  intro y hy
  have hm := h.perm.mem_iff.1 hy
  obtain ⟨i, hi, rfl⟩ := List.mem_iff_getElem.1 hm
  rw [List.getElem_take]
  simp only [List.length_take] at hi
  have hi2 : i < (tag q.toArray).size := by simp at hi; omega
  simp only [Array.getElem_toList]
  simp [tag]
  omega

theorem WantAt.step {q : List Rk} {k j : Nat} {W : List (Rk × Nat)} (h : WantAt q k W) (hk : k < q.length) (hj : j ≤ k) (hlo : ∀ t, t + 1 = j → ∀ h : t < W.length, lessB q[k] W[t].1 = false)
    (hhi : ∀ t (h : t < W.length), j ≤ t → lessB q[k] W[t].1 = true) : WantAt q (k + 1) (insAt W j (q[k], k)) := by
  refine ⟨?_, insAt_sorted h.sorted (by rw [h.len]; exact hj) hlo hhi h.tags, ?_⟩
  · have := (insAt_perm W j (q[k], k)).length_eq
    rw [this]; simp [h.len]
  · rw [tag_list q k hk]
    exact (insAt_perm W j (q[k], k)).trans (h.perm.append_right _)

theorem WantAt.all {q : List Rk} {W : List (Rk × Nat)} {r : Array Rk} (h : WantAt q q.length W) (hs : Sorted4 q.toArray r) : r = (W.map (·.1)).toArray := by
  refine sorted4_unique hs W ?_ h.sorted
  have := h.perm
  rwa [List.take_of_length_le (by simp [tag])] at this

theorem OwnAt.keep {base : Nat} {w w' : World} {v : Value} {l : List Rk} {g cap : Nat} (h : OwnAt base w v l g cap) (gr : Gr w w') : OwnAt base w' v l g cap :=
  ⟨h.v, h.base, Nat.lt_of_lt_of_le h.lt gr.size, h.room, h.max, fun o => (gr.frozen (by exact h.lt)).trans (h.free o), fun i hi => gcell4 gr (h.c0 i hi), fun i hi => gcell4 gr (h.c1 i hi), fun i hi => gcell4 gr (h.c2 i hi), fun i hi => gcell4 gr (h.c3 i hi)⟩

/-- Where the next one is laid in. -/
def AtRel (x : Rk) (W : List (Rk × Nat)) (i : Nat) (wr : World) (s8 : Value) (wx : World) : Prop :=
  ∃ j : Nat, s8 = .int .i64 j ∧ j ≤ i ∧ (∀ t, t + 1 = j → ∀ h : t < W.length, lessB x W[t].1 = false) ∧ (∀ t (h : t < W.length), j ≤ t → lessB x W[t].1 = true) ∧ Gr wr wx
/-- .. laid in. -/
def AppRel (base : Nat) (w3 : World) (l : List Rk) (s6 : Value) (wx : World) : Prop := Own base 23 wx s6 l ∧ Below base w3 wx

end Go.Proofs.Ytpaiaoaffoeleaa
