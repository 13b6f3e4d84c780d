/- The table of slots: the contract of IDs: the ids that are there, rising. -/
import Derived.Test.YtlpjojegdnconaaDoorR5
import Derived.Test.YtlpjojegdnconaaDoorShelf
import Derived.Sort.OwnSortedInts
import Derived.Maps.AppendAt
namespace Go.Proofs.YtlpjojegdnconaaDoor
open Go.RowKit Go.Lib Go.Maps Go.Sort
set_option linter.unusedVariables false

/-! ### plain -/
def idsOf (A : Nat → Option Int) (n : Nat) : List Int := (List.range n).filterMap A
theorem idsOf_length (A : Nat → Option Int) : ∀ n, (idsOf A n).length = cnt A n
  | 0 => rfl
  | n + 1 => by
    have := idsOf_length A n
    unfold idsOf at *
    unfold cnt
    rw [List.range_succ, List.filterMap_append, List.length_append, this]
    cases e : A n <;> simp [e]
theorem mem_idsOf {A : Nat → Option Int} {n : Nat} (ho : ∀ s, n ≤ s → A s = none) (x : Int) : x ∈ idsOf A n ↔ ∃ s, A s = some x := by
  unfold idsOf
  rw [List.mem_filterMap]
  constructor
  · rintro ⟨s, _, h⟩; exact ⟨s, h⟩
  · rintro ⟨s, h⟩
    refine ⟨s, List.mem_range.2 (Nat.lt_of_not_le fun q => ?_), h⟩
    rw [ho s q] at h; cases h
theorem nodup_idsOf {A : Nat → Option Int} (hi : ∀ (s t : Nat) (x : Int), A s = some x → A t = some x → s = t) : ∀ n, (idsOf A n).Nodup
  | 0 => List.nodup_nil
  | n + 1 => by
    have ih := nodup_idsOf hi n
    unfold idsOf at *
    rw [List.range_succ, List.filterMap_append]
    cases e : A n with
    | none => simpa [e] using ih
    | some x =>
      rw [List.nodup_append]
      refine ⟨ih, by simp [e], fun a ha b hb => ?_⟩
      simp [e] at hb
      subst hb
      rintro rfl
      obtain ⟨s, hs, h⟩ := List.mem_filterMap.1 ha
      have := hi s n a h e
      rw [List.mem_range] at hs
      omega

/-- What was collected so far. -/
structure Coll (D : DataW Unit) (left : Lit → Bool) (zs : List Int) : Prop where
  nodup : zs.Nodup
  mem : ∀ x : Int, x ∈ zs ↔ (Maps.has D (.int .i64 x) = true ∧ left (.int .i64 x) = false)
theorem Coll.start (D : DataW Unit) : Coll D (Maps.has D) [] := ⟨List.nodup_nil, fun x => by simp⟩
theorem Coll.step {D : DataW Unit} {left : Lit → Bool} {zs : List Int} {x : Int} {c : DataW Unit} (h : Coll D left zs) (hl : left (.int .i64 x) = true) (hat : ∀ zd, D.atKey (.int .i64 x) zd = c) : Coll D (fun z => left z && !z.sameKey (.int .i64 x)) (zs ++ [x]) := by
  refine ⟨?_, fun y => ?_⟩
  · rw [List.nodup_append]
    refine ⟨h.nodup, by simp, fun a ha b hb => ?_⟩
    simp at hb
    subst hb
    rintro rfl
    have := ((h.mem a).1 ha).2
    rw [hl] at this; cases this
  · rw [List.mem_append, h.mem y]
    by_cases e : y = x
    · subst e
      have hh : Maps.has D (.int .i64 y) = true := has_true_of_atKey hat
      have hk : (Lit.int .i64 y).sameKey (.int .i64 y) = true := WideAt.sameKey_self (keyLit y)
      simp [hh, hk]
    · have hk : (Lit.int .i64 y).sameKey (.int .i64 x) = false := sameKey_ne (lit_ne e)
      simp [hk, e]
theorem Coll.perm {D : DataW Unit} {left : Lit → Bool} {zs : List Int} {A : Nat → Option Int} {n : Nat} (h : Coll D left zs) (hm : MapIs D A) (ho : ∀ s, n ≤ s → A s = none) (hl : ∀ kl, left kl = false) : zs.Perm (idsOf A n) := by
  refine (List.perm_ext_iff_of_nodup h.nodup (nodup_idsOf hm.inj n)).2 fun x => ?_
  rw [h.mem x, mem_idsOf ho, hm.has x]
  simp [hl]

theorem sorted_lt {zs : List Int} (hn : zs.Nodup) : (zs.mergeSort fun x y => decide (x ≤ y)).Pairwise (· < ·) := by
  have h1 : (zs.mergeSort fun x y => decide (x ≤ y)).Pairwise (fun a b => decide (a ≤ b) = true) := List.pairwise_mergeSort (fun a b c h1 h2 => by simp at *; omega) (fun a b => by simp; omega) zs
  have h2 : (zs.mergeSort fun x y => decide (x ≤ y)).Nodup := (List.mergeSort_perm zs _).nodup_iff.2 hn
  refine (h1.and h2).imp fun {a b} ⟨h, k⟩ => ?_
  simp at h
  omega

/-- What IDs leaves. -/
def IdsPost (w : World) (A : Nat → Option Int) (n : Nat) (e : Ending) (w' : World) : Prop := ∃ (g cap : Nat) (l : List Int), e = .returned (.slice (some ⟨g, 0, none⟩) l.length cap) ∧ w.heap.size ≤ g ∧ Below w.heap.size w w' ∧ l.length = cnt A n ∧ l.length ≤ cap ∧ (∀ x, x ∈ l ↔ ∃ s, A s = some x) ∧ l.Pairwise (· < ·) ∧ (∀ i (h : i < l.length), w'.cell? ⟨g, i, none⟩ = some (.int .i64 l[i])) ∧ w'.ownsRow w.heap.size 3 1 (.slice (some ⟨g, 0, none⟩) l.length cap) l.length (l.map (Value.int .i64))

set_option maxRecDepth 100000 in
set_option maxHeartbeats 2000000 in
theorem ids_any (p g bm n : Nat) (A : Nat → Option Int) (D : DataW Unit) (w : World) (h : Rep w p g bm n A D) :
    Calls Tryd.prog 45 #[.pointer (some ⟨p, 0, none⟩)] w fun e w' => IdsPost w A n e w' := by
  obtain ⟨i0, hi, hz1, hz2, hz0⟩ := info3
  have c1 := h.mp
  have hpl := h.pl
  have hml := h.ml
  have hS : Maps.size D ≤ 4096 := by rw [h.size]; exact Nat.le_trans (cnt_le A n) h.n4
  have R := Lib.hid h
  have hown := h.own
  obtain ⟨k, hk⟩ : ∃ k, k = Maps.size D := ⟨_, rfl⟩
  have HK := Lib.hid hk
  rw [← hk] at hown hS
  clear h hk
  go_enter Tryd.func45, Tryd.ntmps45
  go_wp2_with (first
    | (at_len; refine wpList_len_own _ rfl _ 62 rfl 3 3 Tryd.underlying62 _ bm k D rfl hown ?_; rw [← HK.out])
    | (at_make; refine wpList_make_own _ rfl _ _ 42 rfl w.heap.size 3 i0 (.int .i64 0) 1 Tryd.underlying42 hi hz0 hz1 _ _ _ k rfl rfl rfl (by rw [hz2]; omega) (by unfold maxLen; omega) (Nat.le_refl _) ?_; intro w1 hrow1 hg1; have c2 := (World.cell?_of_block (a := ⟨p, 1, none⟩) (hg1.block p hpl (by simp))).trans c1; clear c1)
    | (at_range; refine wpList_range_own _ rfl _ 62 rfl 3 3 law3 Tryd.underlying62 _ bm k D rfl (hown.kept hg1 (by simp)) ?_; intro w0 hrg0 hg0 hs0))
  go_frame
  rw [← HK.out] at hrg0
  clear c2 hs0
  go_loopw [3] (fun v wr => ∃ (left : Lit → Bool) (cnt : Nat) (zs : List Int), wr.ranges Tryd.prog 3 (plainElem Tryd.prog 3) bm w1.heap.size k D left cnt ∧ zs.length + cnt ≤ k ∧
      wr.ownsRow w.heap.size 3 1 v zs.length (zs.map (Value.int .i64)) ∧ v ≠ .slice none 0 0 ∧ Coll D left zs ∧ Below w.heap.size w wr)
    (fun _ wr => wr.rangeLeft bm w1.heap.size)
  case atStart =>
    exact ⟨_, _, [], hrg0, by simp, hrow1.kept hg0 (Or.inr (by simp [Value.ownBlock])), by simp, Coll.start D,
      ((Below.refl _ _).grown hg1 (Nat.le_refl _) (fun j hj => by cases hj)).grown hg0 hg1.size (fun j hj => by cases hj)⟩
  case round =>
    obtain ⟨left, cnt, zs, hrg, hcs, hrow, hnn, hC, hnx⟩ := hrel
    go_wp2_with (at_next; refine wpList_next_ranges_ii _ rfl _ rfl 3 3 .i64 .i64 law3 Tryd.underlying3 Tryd.underlying3 bm w1.heap.size k _ _ _ rfl hrg ?_ ?_)
    · intro hc0 hl0
      rcases hrow.2 with ⟨hnil, _⟩ | ⟨g', cap, cur, rfl, hbase, hb, h1, h2, h3, h4⟩
      · exact absurd hnil hnn
      have hH : Holds (Value.int .i64) wr g' 0 zs.toArray := holds_of_blockI hb (by simpa using h4)
      have hgl : g' < wr.heap.size := (Array.getElem?_eq_some_iff.1 hb).1
      have hc := Tryd.slices_Sort_int g' 0 cap zs wr hH hgl (by omega)
      go_wp2_with (go_at_call 40; refine hc.mono ?_; rintro e w' ⟨rfl, nn, os, rfl⟩)
      go_ret
      have hp := hC.perm R.out.map R.out.out hl0
      have hl : (zs.mergeSort fun x y => decide (x ≤ y)).length = zs.length := by simp
      have hr := ownsRow_sortedI (n := nn) (os := os) (ss := zs) (ts := zs.mergeSort fun x y => decide (x ≤ y)) hl hbase hb h1 h2 h3
      refine ⟨g', cap, zs.mergeSort fun x y => decide (x ≤ y), by rw [hl]; rfl, hbase, hnx.grown (grownBy_sortedI _) hnx.size (fun j hj => by cases hj; exact hbase), by rw [hl, hp.length_eq, idsOf_length], by rw [hl]; exact h1, fun x => ?_, sorted_lt hC.nodup, fun i hi => ?_, by rw [hl]; exact hr⟩
      · rw [(List.mergeSort_perm zs _).mem_iff, hp.mem_iff]; exact mem_idsOf R.out.out x
      · rw [hr.cellAt i (by omega)]; simp [List.getElem?_eq_getElem hi]
    · intro x c w2 cnt2 hwx hwc hlk hat hrg2 hlt hg2 hs2 hen
      have hrow2 := hrow.kept hg2 (Or.inr (row_ne_iter hrow hrg).symm)
      clear hs2
      go_wp2_with (at_builtin; refine wpList_append_own _ rfl _ _ 42 rfl w.heap.size 3 i0 (.int .i64 0) 1 8 Tryd.underlying42 hi hz0 hz1 hz2 rfl (by decide) _ _ _ rfl (hrow2.alloc _) ⟨w2.heap.size, 0, none⟩ 1 1 [.int .i64 x] rfl rfl (cell_one_new _ _ _) (by simp [Value.oneCell']) (by unfold maxLen; omega) (by omega) (by have := hnx.size; have := hg2.size; simp; omega) ?_; intro v' w3 hown' hg3 hnil3; go_frame)
      have hrg3 := (hrg2.alloc _).kept hg3 (row_ne_low hrow2 hml) (row_ne_iter hrow2 hrg2)
      go_roundw
      case rel =>
        refine ⟨_, cnt2, zs ++ [x], hrg3, by simp; omega, by simpa using hown', fun hv' => by have := (hnil3.1 hv').2; omega, hC.step hlk hat, ?_⟩
        exact ((hnx.grown hg2 hnx.size (fun j hj => by cases hj; exact hg1.size)).alloc (by have := hnx.size; have := hg2.size; omega) _).grown hg3 (by have := hnx.size; have := hg2.size; simp; omega) (fun j hj => (hrow2.lt j hj).1)
      case measure => rw [hrg3.left_eq, hrg.left_eq]; exact hlt
end Go.Proofs.YtlpjojegdnconaaDoor
