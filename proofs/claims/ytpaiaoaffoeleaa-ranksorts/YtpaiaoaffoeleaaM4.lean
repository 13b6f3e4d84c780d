/- The document's own sorting by insertion, plain; rows of ranks that grow by append. -/
import Derived.Test.YtpaiaoaffoeleaaJ4
import Derived.Maps.AppendAt
namespace Go.Proofs.Ytpaiaoaffoeleaa
open Go.Shelf Go.RowKit Go.Lib Go.Sort
set_option linter.unusedVariables false

/-- x laid in at j. -/
def insAt (W : List (Rk × Nat)) (j : Nat) (x : Rk × Nat) : List (Rk × Nat) := W.take j ++ x :: W.drop j

theorem insAt_perm (W : List (Rk × Nat)) (j : Nat) (x : Rk × Nat) : (insAt W j x).Perm (W ++ [x]) := by
  unfold insAt
  refine List.perm_middle.trans ?_
  rw [List.take_append_drop]
  exact (List.perm_append_singleton x W).symm

theorem insAt_sorted {W : List (Rk × Nat)} {x : Rk × Nat} {j : Nat} (hs : W.Pairwise (TT lessB)) (hj : j ≤ W.length) (hlo : ∀ t, t + 1 = j → ∀ h : t < W.length, lessB x.1 W[t].1 = false)
    (hhi : ∀ t (h : t < W.length), j ≤ t → lessB x.1 W[t].1 = true) (htag : ∀ y ∈ W, y.2 < x.2) : (insAt W j x).Pairwise (TT lessB) := by
  have hp := hs
  rw [← List.take_append_drop j W, List.pairwise_append] at hp
  obtain ⟨p1, p2, p3⟩ := hp
  unfold insAt
  rw [List.pairwise_append, List.pairwise_cons]
  refine ⟨p1, ⟨fun b hb => ?_, p2⟩, fun a ha b hb => ?_⟩
  · obtain ⟨i, hi, rfl⟩ := List.mem_iff_getElem.1 hb
    rw [List.getElem_drop]
    simp only [List.length_drop] at hi
    exact ltT_iff.2 (.inl (hhi (j + i) (by omega) (by omega)))
  · rcases List.mem_cons.1 hb with rfl | hb
    · obtain ⟨t, ht, rfl⟩ := List.mem_iff_getElem.1 ha
      rw [List.getElem_take]
      simp only [List.length_take] at ht
      refine ltT_iff.2 (.inr ⟨?_, htag _ (List.getElem_mem _)⟩)
      have hl := hlo (j - 1) (by omega) (by omega)
      by_cases e : t = j - 1
      · subst e; exact hl
      · have h1 := List.pairwise_iff_getElem.1 hs t (j - 1) (by omega) (by omega) (by omega)
        cases hx : lessB b.1 W[t].1
        · rfl
        · rcases ltT_iff.1 h1 with h2 | ⟨h2, _⟩
          · rw [swo_less.trans _ _ _ hx h2] at hl; cases hl
          · rw [lt_of_lt_not swo_less hx h2] at hl; cases hl
    · exact p3 a ha b hb

/-! ### the cells of a list of ranks -/
def flatL (l : List Rk) : List Value := l.flatMap encQ
theorem flatL_nil : flatL [] = [] := rfl
theorem flatL_cons (x : Rk) (l : List Rk) : flatL (x :: l) = encQ x ++ flatL l := rfl
theorem flatL_append (a b : List Rk) : flatL (a ++ b) = flatL a ++ flatL b := by unfold flatL; rw [List.flatMap_append]
theorem flatL_length : ∀ l : List Rk, (flatL l).length = l.length * 4
  | [] => rfl
  | x :: l => by rw [flatL_cons, List.length_append, flatL_length l]; show 4 + _ = _; simp; omega
theorem flatL_at : ∀ (l : List Rk) (i t : Nat) (hi : i < l.length), t < 4 → (flatL l)[i * 4 + t]? = (encQ l[i])[t]?
  | [], i, t, hi, ht => by simp at hi
  | x :: l, 0, t, hi, ht => by
    rw [flatL_cons, List.getElem?_append_left (by show 0 * 4 + t < 4; omega)]; simp
  | x :: l, i + 1, t, hi, ht => by
    rw [flatL_cons, List.getElem?_append_right (by show 4 ≤ _; omega)]
    have e : (i + 1) * 4 + t - (encQ x).length = i * 4 + t := by show (i + 1) * 4 + t - 4 = _; omega
    rw [e, flatL_at l i t (by simpa using hi) ht]
    rfl
theorem flatL_take (l : List Rk) (j : Nat) (h : j ≤ l.length) : (flatL l).take (j * 4) = flatL (l.take j) := by
  conv => lhs; rw [← List.take_append_drop j l, flatL_append]
  rw [List.take_left' (by rw [flatL_length, List.length_take]; omega)]
theorem flatL_drop (l : List Rk) (j : Nat) (h : j ≤ l.length) : (flatL l).drop (j * 4) = flatL (l.drop j) := by
  conv => lhs; rw [← List.take_append_drop j l, flatL_append]
  rw [List.drop_left' (by rw [flatL_length, List.length_take]; omega)]
theorem flatL_one (l : List Rk) : ∀ v ∈ flatL l, v.oneCell' = true := by
  intro v hv
  obtain ⟨x, _, hx⟩ := List.mem_flatMap.1 hv
  exact encQ_one x v hx

/-- A slice of the call's own that holds the ranks l (elements of type t). -/
def Own (base t : Nat) (w : World) (v : Value) (l : List Rk) : Prop := w.ownsRow base t 4 v l.length (flatL l)

/-- Where it lies, what its cells hold. -/
structure OwnAt (base : Nat) (w : World) (v : Value) (l : List Rk) (g cap : Nat) : Prop where
  v : v = .slice (some ⟨g, 0, none⟩) l.length cap
  base : base ≤ g
  lt : g < w.heap.size
  room : l.length ≤ cap
  max : cap ≤ maxLen
  free : ∀ o, w.frozen? ⟨g, o, none⟩ = false
  c0 : ∀ i (h : i < l.length), w.cell? ⟨g, i * 4, none⟩ = some (.int .i64 l[i].d)
  c1 : ∀ i (h : i < l.length), w.cell? ⟨g, i * 4 + 1, none⟩ = some (.int .i64 l[i].b)
  c2 : ∀ i (h : i < l.length), w.cell? ⟨g, i * 4 + 2, none⟩ = some (.int .i64 l[i].g)
  c3 : ∀ i (h : i < l.length), w.cell? ⟨g, i * 4 + 3, none⟩ = some (.int .i64 l[i].i)

theorem Own.at {base t : Nat} {w : World} {v : Value} {l : List Rk} (h : Own base t w v l) (hl : 0 < l.length) : ∃ g cap, OwnAt base w v l g cap := by
  obtain ⟨_, h2⟩ := h
  rcases h2 with ⟨_, h0⟩ | ⟨g, cap, cur, hv, hb, hg, hn, hm, hc, htk⟩
  · omega
  · have hlt : g < w.heap.size := by
      by_cases c : g < w.heap.size
      · exact c
      · rw [Array.getElem?_eq_none (by omega)] at hg; cases hg
    have cell : ∀ i (hi : i < l.length) u, u < 4 → w.cell? ⟨g, i * 4 + u, none⟩ = (encQ l[i])[u]? := fun i hi u hu => by
      have h1 := flatL_at l i u hi hu
      rw [← htk, List.getElem?_take_of_lt (by omega)] at h1
      simp only [World.cell?, hg]
      rw [← h1]
      simp
    refine ⟨g, cap, ⟨hv, hb, hlt, hn, hm, fun o => by simp [World.frozen?, hg], fun i hi => ?_, fun i hi => ?_, fun i hi => ?_, fun i hi => ?_⟩⟩
    · exact cell i hi 0 (by omega)
    · exact cell i hi 1 (by omega)
    · exact cell i hi 2 (by omega)
    · exact cell i hi 3 (by omega)

theorem flat_list (l : List Rk) : (flatK encQ 4 l.toArray).toList = flatL l := by
  refine List.ext_getElem? fun n => ?_
  by_cases h : n < l.length * 4
  · have e : n = n / 4 * 4 + n % 4 := by omega
    have h1 := flatL_at l (n / 4) (n % 4) (by omega) (by omega)
    rw [← e] at h1
    rw [h1]
    have hs : n < (flatK encQ 4 l.toArray).size := by simpa using h
    have h2 := get_flatK encQ 4 l.toArray n (by simpa using h)
    rw [getElem!_pos _ n hs] at h2
    rw [Array.getElem?_toList, Array.getElem?_eq_getElem hs, h2]
    have hd : n / 4 < l.length := by omega
    rw [getElem!_pos l.toArray (n / 4) (by simpa using hd)]
    have hm : n % 4 < (encQ l.toArray[n / 4]).length := by show n % 4 < 4; omega
    rw [getElem!_pos (encQ l.toArray[n / 4]) (n % 4) hm, List.getElem?_eq_getElem (by show n % 4 < 4; omega)]
    simp
  · rw [List.getElem?_eq_none (by simp; omega), List.getElem?_eq_none (by rw [flatL_length]; omega)]

theorem OwnAt.holds {base : Nat} {w : World} {v : Value} {l : List Rk} {g cap : Nat} (h : OwnAt base w v l g cap) : HoldsK encQ 4 w g 0 l.toArray := by
  intro j hj
  have hj' : j < l.length * 4 := by simpa using hj
  have hd : j / 4 < l.length := by omega
  have e : j = j / 4 * 4 + j % 4 := by omega
  have h2 := get_flatK encQ 4 l.toArray j (by simpa using hj')
  rw [getElem!_pos l.toArray (j / 4) (by simpa using hd)] at h2
  refine ⟨?_, by rw [Nat.zero_add]; exact h.free j⟩
  rw [h2, Nat.zero_add]
  simp only [List.getElem_toArray, id]
  have c0 := h.c0 (j / 4) hd; have c1 := h.c1 (j / 4) hd; have c2 := h.c2 (j / 4) hd; have c3 := h.c3 (j / 4) hd
  have hm : j % 4 = 0 ∨ j % 4 = 1 ∨ j % 4 = 2 ∨ j % 4 = 3 := by omega
  rcases hm with m | m | m | m <;> rw [m] at e ⊢
  · rw [show j / 4 * 4 = j by omega] at c0; exact c0
  · rw [show j / 4 * 4 + 1 = j by omega] at c1; exact c1
  · rw [show j / 4 * 4 + 2 = j by omega] at c2; exact c2
  · rw [show j / 4 * 4 + 3 = j by omega] at c3; exact c3

end Go.Proofs.Ytpaiaoaffoeleaa
