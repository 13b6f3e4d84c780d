/- Sorting a row of numbers of the call's own, also one that is nil; one number more. -/
import Derived.Test.YtlpjojegdnconaaDoorQ8
import Derived.Deep.LoopGhost
namespace Go.Proofs.YtlpjojegdnconaaDoor
open Go.RowKit Go.Lib Go.Maps Go.Sort
open Ca (Ke Gr Sv Row Cl Ky Bs blk_other)
set_option linter.unusedVariables false
set_option maxRecDepth 100000
set_option maxHeartbeats 2000000

theorem ins_nil (w : World) : Calls Tryd.prog 65 #[.slice none 0 0, .int .i64 0, .int .i64 0] w fun e w' => e = .returned (.tuple #[]) ∧ w' = w := by
  go_enter Tryd.func65, Tryd.ntmps65
  go_wp2_with fail
  go_loopg [6] 0 (fun kx s6 wr => s6 = .int .i64 1 ∧ wr = w)
  case atStart => exact ⟨rfl, rfl⟩
  case round =>
    obtain ⟨rfl, rfl⟩ := hrel
    go_wp2
    go_end0
    exact ⟨rfl, rfl⟩
theorem pdq_nil (k : Int) (w : World) : Calls Tryd.prog 54 #[.slice none 0 0, .int .i64 0, .int .i64 0, .int .i64 k] w fun e w' => e = .returned (.tuple #[]) ∧ w' = w := by
  have C := Lib.hid (ins_nil w)
  go_enter Tryd.func54, Tryd.ntmps54
  go_wp2_with fail
  go_loopg [1, 2] 0 (fun kx s1 s2 wr => s1 = .int .i64 0 ∧ s2 = .int .i64 0 ∧ wr = w)
  case atStart => exact ⟨rfl, rfl, rfl⟩
  case round =>
    obtain ⟨rfl, rfl, rfl⟩ := hrel
    go_wp2_with fail
    refine C.out.mono ?_
    rintro e w1 ⟨rfl, hw⟩
    obtain rfl := hw.symm
    clear hw C
    go_wp2
    refine bodyPost_ret (results_none rfl _ _ _) rfl ?_
    exact ⟨rfl, rfl⟩
theorem len_zero (w : World) : Calls Tryd.prog 55 #[.int .u64 0] w fun e w' => e = .returned (.int .i64 0) ∧ w' = w := by
  have C := Lib.hid (Tryd.bits_Len64 0 w (by omega) (by omega))
  rw [show (Lib.bitLen (0 : Int).toNat : Int) = 0 from rfl] at C
  go_enter Tryd.func55, Tryd.ntmps55
  go_wp2_with fail
  refine C.out.mono ?_
  rintro e w1 ⟨rfl, hw⟩
  obtain rfl := hw.symm
  clear hw C
  go_wp2
  go_ret
  exact ⟨rfl, rfl⟩
theorem sort_nil (w : World) : Calls Tryd.prog 40 #[.slice none 0 0] w fun e w' => e = .returned (.tuple #[]) ∧ w' = w := by
  have C := Lib.hid (len_zero w)
  have P := Lib.hid (fun k => pdq_nil k w)
  go_enter Tryd.func40, Tryd.ntmps40
  go_wp2_with fail
  refine C.out.mono ?_
  rintro e w1 ⟨rfl, hw⟩
  obtain rfl := hw.symm
  clear hw C
  go_wp2_with fail
  refine (P.out _).mono ?_
  rintro e w1 ⟨rfl, hw⟩
  obtain rfl := hw.symm
  clear hw P
  go_wp2
  go_end0
  exact ⟨rfl, rfl⟩
/-- A row of numbers sorted. -/
theorem sort_row {w : World} {base : Nat} {v : Value} {l : List Int} (h : RowI w base v l) (hsz : l.length ≤ 1000000) :
    Calls Tryd.prog 40 #[v] w fun e w' => e = .returned (.tuple #[]) ∧ RowI w' base v (l.mergeSort fun x y => decide (x ≤ y)) ∧ Ke (fun j => v.ownBlock = some j) w w' := by
  have h' := rowI_to h
  rcases h'.2 with ⟨rfl, h0⟩ | ⟨g', cap, cur, rfl, hbase, hb, h1, h2, h3, h4⟩
  · have hl : l = [] := List.length_eq_zero_iff.1 h0
    subst hl
    refine (sort_nil w).mono ?_
    rintro e w' ⟨rfl, rfl⟩
    exact ⟨rfl, by simpa using h, Ke.refl _ _⟩
  · have hH : Holds (Value.int .i64) w g' 0 l.toArray := holds_of_blockI hb (by simpa using h4)
    have hgl : g' < w.heap.size := (Array.getElem?_eq_some_iff.1 hb).1
    refine (Tryd.slices_Sort_int g' 0 cap l w hH hgl (by omega)).mono ?_
    rintro e w' ⟨rfl, nn, os, rfl⟩
    have hl : (l.mergeSort fun x y => decide (x ≤ y)).length = l.length := by simp
    have hr := ownsRow_sortedI (n := nn) (os := os) (ss := l) (ts := l.mergeSort fun x y => decide (x ≤ y)) hl hbase hb h1 h2 h3
    exact ⟨rfl, rowI_of (by rw [hl]; exact hr), (Ke.refl _ w).grown (grownBy_sortedI _) (fun k e => by cases e; exact .inl rfl)⟩
/-- One number more. -/
theorem info3i : ∃ i, Tryd.prog.info? 3 = some i ∧ i.size = 1 ∧ i.bytes = 8 ∧ i.zero = some (.int .i64 0) := info3
theorem row_more {w : World} {base : Nat} {v : Value} {l : List Int} (h : RowI w base v l) (hb : base ≤ w.heap.size) (hl : l.length ≤ 1000000) (x : Int) :
    ∃ v' w1, (Builtin.append_ #[42, 42] 42 #[v, .slice (some ⟨w.heap.size, 0, none⟩) 1 1]).run Tryd.prog (w.alloc (.cells #[.int .i64 x] 3)) = .ok v' w1 ∧ (w.alloc (.cells #[.int .i64 x] 3)).grownBy w1 v.ownBlock ∧ RowI w1 base v' (l ++ [x]) ∧ (v'.ownBlock = v.ownBlock ∨ v'.ownBlock = some (w.heap.size + 1)) := by
  obtain ⟨i, hi, h1, h2, h3⟩ := info3
  have h' := rowI_to (Row.keep h (fun g hg => Below.heap_alloc w (.cells #[.int .i64 x] 3) g (Row.lt h hg).2))
  obtain ⟨v', w1, hr, ho, hg, ha⟩ := Ca.append_own_at (P := Tryd.prog) (w.alloc (.cells #[.int .i64 x] 3)) base 42 42 3 i _ 1 8 Tryd.underlying42 hi h3 h1 h2 rfl (by omega) v l.length _ h' ⟨w.heap.size, 0, none⟩ 1 1 [.int .i64 x] (by omega) rfl (fun j u hj => by
    rcases j with _ | j
    · cases hj; simp [go_sem, Addr.add]
    · simp at hj) (by simp [Value.oneCell']) (by unfold maxLen; omega) (by omega) (by simp; omega)
  refine ⟨v', w1, hr, hg, ?_, by simpa using ha⟩
  refine rowI_of ?_
  rw [List.length_append, List.map_append]
  exact ho
end Go.Proofs.YtlpjojegdnconaaDoor
