/- Rows of numbers: cloned, sorted, compacted. -/
import Derived.Test.YtnmdidglfegdcaaDoorC2
import Derived.Test.YtnmdidglfegdcaaDoorShelf
import Derived.Sort.OwnSortedInts
namespace Go.Proofs.YtnmdidglfegdcaaDoor
open Go.RowKit Go.Lib Go.Maps Go.Sort
set_option linter.unusedVariables false
set_option maxRecDepth 100000
set_option maxHeartbeats 4000000

/-- Ids that can be read. -/
def IdIn (w : World) (v : Value) (l : List Int) : Prop := ∃ a c, v = .slice a l.length c ∧ (l = [] ∨ ∃ b off, a = some ⟨b, off, none⟩ ∧ ∀ j, j < l.length → w.cell? ⟨b, off + j, none⟩ = some (.int .i64 (l.getD j 0)))
theorem IdIn.gr {w w' : World} {v : Value} {l : List Int} (h : IdIn w v l) (g : Gr w w') : IdIn w' v l := by
  obtain ⟨a, c, rfl, h⟩ := h
  refine ⟨a, c, rfl, ?_⟩
  rcases h with h | ⟨b, off, rfl, h⟩
  · exact .inl h
  · exact .inr ⟨b, off, rfl, fun j hj => gcell g (h j hj)⟩
theorem IdIn.ke {w w' : World} {v : Value} {l : List Int} {F : Nat → Prop} (h : IdIn w v l) (g : Ke F w w') (hF : ∀ a n c b off, v = .slice (some ⟨b, off, a⟩) n c → ¬ F b) : IdIn w' v l := by
  obtain ⟨a, c, rfl, h⟩ := h
  refine ⟨a, c, rfl, ?_⟩
  rcases h with h | ⟨b, off, rfl, h⟩
  · exact .inl h
  · exact .inr ⟨b, off, rfl, fun j hj => (g.cell (lt_of_cell (h j hj)) (hF _ _ _ _ _ rfl)).trans (h j hj)⟩
theorem IdIn.of_row {w : World} {base : Nat} {v : Value} {l : List Int} (h : RowI w base v l) : IdIn w v l := by
  rcases Nat.eq_zero_or_pos l.length with e | e
  · obtain ⟨xa, ca, rfl⟩ := rowI_form h
    exact ⟨xa, ca, rfl, .inl (List.length_eq_zero_iff.1 e)⟩
  · obtain ⟨g, cap, rfl, -⟩ := Row.form h e
    exact ⟨_, _, rfl, .inr ⟨g, 0, rfl, fun j hj => by rw [Nat.zero_add]; exact rowI_cell h rfl j hj⟩⟩
theorem Gr.of_below {w w' : World} (h : Below w.heap.size w w') : Gr w w' := ⟨h.os, h.tape, h.output, h.size, fun k hk _ => h.block k hk⟩

theorem clone_any {w : World} {v : Value} {l : List Int} (h : IdIn w v l) (hl : l.length ≤ 1000000) : Calls Tryd.prog 18 #[v] w fun e w' => ∃ u, e = .returned u ∧ RowI w' w.heap.size u l ∧ Gr w w' := by
  obtain ⟨a, c, rfl, h⟩ := h
  rcases h with rfl | ⟨b, off, rfl, h⟩
  · cases a with
    | none =>
      refine (Tryd.slices_Clone_int_nil 0 c w).mono ?_
      rintro e w' ⟨rfl, rfl⟩
      exact ⟨_, rfl, rowI_nil _ _, Ke.refl _ _⟩
    | some a =>
      refine (Tryd.slices_Clone_int_zero a c w).mono ?_
      rintro e w' ⟨u, rfl, h1, _, h3⟩
      exact ⟨u, rfl, rowI_of h1, Gr.of_below h3⟩
  · refine (Tryd.slices_Clone_int b off l.length c l w (Nat.le_refl _) (by omega) h).mono ?_
    rintro e w' ⟨u, rfl, h1, _, h3⟩
    rw [List.take_length] at h1
    exact ⟨u, rfl, rowI_of h1, Gr.of_below h3⟩

theorem sort_row {w : World} {base : Nat} {v : Value} {l : List Int} (h : RowI w base v l) (hsz : l.length ≤ 1000000) :
    Calls Tryd.prog 19 #[v] w fun e w' => e = .returned (.tuple #[]) ∧ RowI w' base v (rise l) ∧ Ke (fun j => v.ownBlock = some j) w w' := by
  have h' := rowI_to h
  rcases h'.2 with ⟨rfl, h0⟩ | ⟨g', cap, cur, rfl, hbase, hb, h1, h2, h3, h4⟩
  · have hl : l = [] := List.length_eq_zero_iff.1 h0
    subst hl
    refine (Tryd.slices_Sort_int_none none 0 w).mono ?_
    rintro e w' ⟨rfl, rfl⟩
    exact ⟨rfl, by simpa [rise] using h, Ke.refl _ _⟩
  · have hH : Holds (Value.int .i64) w g' 0 l.toArray := holds_of_blockI hb (by simpa using h4)
    have hgl : g' < w.heap.size := (Array.getElem?_eq_some_iff.1 hb).1
    refine (Tryd.slices_Sort_int g' 0 cap l w hH hgl (by omega)).mono ?_
    rintro e w' ⟨rfl, nn, os, rfl⟩
    have hl : (rise l).length = l.length := rise_length l
    have hr := ownsRow_sortedI (n := nn) (os := os) (ss := l) (ts := rise l) hl hbase hb h1 h2 h3
    exact ⟨rfl, rowI_of (by rw [hl]; exact hr), (Ke.refl _ w).grown (grownBy_sortedI _) (fun k e => by cases e; exact .inl rfl)⟩
theorem made_ints (c : Nat) : madeCells (Value.cells (.int .i64 0)) c = Array.replicate c (.int .i64 0) := by
  refine Array.ext (by simp [madeCells]) fun i h1 h2 => ?_
  simp [madeCells, Value.cells, Nat.mod_one]
theorem make30 (n : Nat) (hc : n ≤ 1000000) (w : World) : (Instr.makeSlice 30 (.int .i64 (n : Int)) (.int .i64 (n : Int))).run Tryd.prog w = .ok (.slice (some ⟨w.heap.size, 0, none⟩) n n) (w.alloc (.cells (Array.replicate n (.int .i64 0)) 3)) := by
  obtain ⟨i, hi, h1, h2, h3⟩ := info3
  have h := run_make w 30 3 i _ Tryd.underlying30 hi h3 .i64 .i64 n n (by omega) (by omega) (by rw [h2]; omega) (by omega)
  rw [h1, Int.toNat_natCast, Nat.mul_one, made_ints] at h
  exact h
theorem row_made (w : World) (n : Nat) (hc : n ≤ 1000000) : Row (w.alloc (.cells (Array.replicate n (.int .i64 0)) 3)) w.heap.size 3 1 (.slice (some ⟨w.heap.size, 0, none⟩) n n) n (fun _ => .int .i64 0) := by
  have blk : (w.alloc (.cells (Array.replicate n (.int .i64 0)) 3)).heap[w.heap.size]? = some (.cells (Array.replicate n (.int .i64 0)) 3 (0, 0)) := heap_alloc_new w _
  refine ⟨by simp, .inr ⟨w.heap.size, n, _, rfl, Nat.le_refl _, blk, Nat.le_refl _, by unfold maxLen; omega, by simp, ?_⟩⟩
  refine List.ext_getElem (by simp) fun j h1 h2 => by simp

/-! ### compact -/
theorem compact_len (zs : List Int) : (Lib.compact zs).length ≤ zs.length := by
  unfold Lib.compact compactUpTo
  rw [List.length_map]
  refine Nat.le_trans (List.length_filter_le _ _) (by simp)
theorem compact_less {zs : List Int} {j : Nat} (hj : j < zs.length) (h : keeps zs.toArray j = false) : (Lib.compact zs).length < zs.length := by
  unfold Lib.compact compactUpTo
  rw [List.length_map]
  have : ((List.range zs.toArray.size).filter (keeps zs.toArray)).length < (List.range zs.toArray.size).length :=
    List.length_filter_lt_length_iff_exists.2 ⟨j, by simpa using hj, by rw [h]; simp⟩
  simpa using this
theorem getA {zs : List Int} {j : Nat} (hj : j < zs.length) : zs.toArray[j]! = zs[j] := by simp [hj]
theorem compact_rise {l : List Int} (h : l.Nodup) : Lib.compact (rise l) = rise l := by
  have hp := rise_lt h
  refine compact_all _ fun j hj => ?_
  rcases Nat.eq_zero_or_pos j with rfl | h0
  · exact keeps_lt_one _ 0 (by omega)
  · refine keeps_pos ?_
    rw [getA hj, getA (show j - 1 < (rise l).length by omega)]
    have := (List.pairwise_iff_getElem.1 hp) (j - 1) j (by omega) hj (by omega)
    omega
theorem compact_twice {l : List Int} (h : ¬ l.Nodup) : (Lib.compact (rise l)).length < (rise l).length := by
  refine Classical.byContradiction fun q => h ?_
  have all : ∀ j, j < (rise l).length → keeps (rise l).toArray j = true := fun j hj => by
    cases e : keeps (rise l).toArray j with
    | true => rfl
    | false => exact absurd (compact_less hj e) q
  have le := List.pairwise_iff_getElem.1 (rise_le l)
  refine ((rise_perm l).nodup_iff).1 ?_
  refine List.pairwise_iff_getElem.2 fun i j hi hj hij => ?_
  have h1 := all j hj
  unfold keeps at h1
  rw [getA hj, getA (show j - 1 < (rise l).length by omega)] at h1
  have hj0 : j ≠ 0 := by omega
  have h2 : (rise l)[j - 1] ≤ (rise l)[j] := le (j - 1) j (by omega) hj (by omega)
  have h3 : (rise l)[i] ≤ (rise l)[j - 1] := by
    rcases Nat.lt_or_ge i (j - 1) with z | z
    · exact le i (j - 1) hi (by omega) z
    · have : i = j - 1 := by omega
      subst this; exact Int.le_refl _
  have h4 : (rise l)[j] ≠ (rise l)[j - 1] := by simpa [hj0] using h1
  show (rise l)[i] ≠ (rise l)[j]
  omega
theorem compact_row {w : World} {base : Nat} {v : Value} {l : List Int} (h : RowI w base v l) (hsz : l.length ≤ 1000000) :
    Calls Tryd.prog 20 #[v] w fun e w' => ∃ a c, e = .returned (.slice a (Lib.compact l).length c) ∧ (Lib.compact l = l → RowI w' base v l) ∧ Ke (fun j => v.ownBlock = some j) w w' := by
  have h' := rowI_to h
  rcases h'.2 with ⟨rfl, h0⟩ | ⟨g', cap, cur, rfl, hbase, hb, h1, h2, h3, h4⟩
  · have hl : l = [] := List.length_eq_zero_iff.1 h0
    subst hl
    refine (Tryd.slices_Compact_int_empty none 0 w).mono ?_
    rintro e w' ⟨rfl, rfl⟩
    exact ⟨none, 0, rfl, fun _ => h, Ke.refl _ _⟩
  · have hH : Holds (Value.int .i64) w g' 0 l.toArray := holds_of_blockI hb (by simpa using h4)
    refine (Tryd.slices_Compact_int g' 0 cap l w hH (by omega) h1).mono ?_
    rintro e w' ⟨rfl, q, rfl⟩
    refine ⟨_, _, rfl, fun hc => ?_, ?_⟩
    · rw [hc, Nat.sub_self, List.replicate_zero, List.append_nil, putRow_self _ _ _ _ _ (holds_ahead (Value.int .i64) w q g' 0 _ hH)]
      exact h.keep (fun g _ => rfl)
    · refine ⟨rfl, rfl, rfl, by simp [putRow, mapBlock, Sort.ahead], fun k hk hne => ?_⟩
      have : g' ≠ k := fun e => hne (by rw [← e]; rfl)
      simp [putRow, mapBlock, Sort.ahead, Array.getElem?_modify, this]
end Go.Proofs.YtnmdidglfegdcaaDoor
