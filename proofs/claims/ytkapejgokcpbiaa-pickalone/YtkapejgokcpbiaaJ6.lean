/- The heap: contracts of find, Len, Top, New. -/
import Derived.Test.YtkapejgokcpbiaaI6
namespace Go.Proofs.Ytkapejgokcpbiaa
open Go.RowKit Go.Lib
set_option linter.unusedVariables false

section
variable (w : World) (base p : Nat) (k : Int) (v u : Value) (n : Nat) (T : Nat → En) (L : Nat) (S : Nat → Nat)

theorem find_some (h : Mem w base p k v u n T L S) (x : Idx T n S L n) (i : Nat) (hi : i < n) :
    Calls Try.prog 39 #[.pointer (some ⟨p, 0, none⟩), .int .i64 (T i).s] w fun e w' => e = .returned (.tuple #[.int .i64 i, .bool true]) ∧ w' = w := by
  have hl := x.lt i hi
  have hS := x.at_ i hi (by omega)
  obtain ⟨q, cap, rfl, bq, lq, nc, cm⟩ := h.sp.form (by omega)
  have c2 := h.c2
  have hn6 := h.n6
  have hl6 := h.l6
  have s0 := h.sp.cell (T i).s (by omega)
  unfold sc at s0
  rw [hS] at s0
  generalize (T i).s = s at *
  have d1 : decide ((s : Int) < 0) = false := by simp
  have d2 : decide ((L : Int) ≤ (s : Int)) = false := by simp; omega
  have d3 : ¬ (s : Int) < 0 := by omega
  have hsz : (s : Int) < (L : Int) := by omega
  have e1 : (((i + 1 : Nat) : Int) == 0) = false := by simp; omega
  obtain ⟨y, hy⟩ : ∃ y : Nat, y = i + 1 := ⟨_, rfl⟩
  rw [← hy] at s0 e1
  have e2 : IntKind.i64.wrap (y : Int) = (y : Int) := by rw [IntKind.wrap_i64]; omega
  have e3 : (y : Int) - 1 = (i : Int) := by omega
  clear h x hS hy
  go_enter Try.func39, Try.ntmps39
  go_wp2
  go_ret2
  exact ⟨rfl, rfl⟩

theorem find_none (h : Mem w base p k v u n T L S) (slot : Int) (hs : slot < 0 ∨ (L : Int) ≤ slot ∨ ∃ s : Nat, slot = s ∧ s < L ∧ S s = 0) :
    Calls Try.prog 39 #[.pointer (some ⟨p, 0, none⟩), .int .i64 slot] w fun e w' => e = .returned (.tuple #[.int .i64 0, .bool false]) ∧ w' = w := by
  have c2 := h.c2
  have hl6 := h.l6
  by_cases h0 : slot < 0
  · have d1 : decide (slot < 0) = true := by simp [h0]
    clear h hs
    go_enter Try.func39, Try.ntmps39
    go_wp2
    go_ret2
    exact ⟨rfl, rfl⟩
  · have d1 : decide (slot < 0) = false := by simp; omega
    by_cases h1 : (L : Int) ≤ slot
    · have d2 : decide ((L : Int) ≤ slot) = true := by simp [h1]
      have d3 : decide (slot ≥ (L : Int)) = true := by simp [h1]
      rcases h.sp.shape with ⟨rfl, rfl⟩ | ⟨q, cap, rfl, bq, lq, nc, cm⟩
      · clear h hs
        go_enter Try.func39, Try.ntmps39
        go_wp2
        go_ret2
        exact ⟨rfl, rfl⟩
      · clear h hs
        go_enter Try.func39, Try.ntmps39
        go_wp2
        go_ret2
        exact ⟨rfl, rfl⟩
    · obtain ⟨s, rfl, hsL, hS⟩ : ∃ s : Nat, slot = s ∧ s < L ∧ S s = 0 := by
        rcases hs with q | q | q
        · omega
        · omega
        · exact q
      obtain ⟨q, cap, rfl, bq, lq, nc, cm⟩ := h.sp.form (by omega)
      have s0 := h.sp.cell s (by omega)
      unfold sc at s0
      rw [hS] at s0
      have d2 : decide ((L : Int) ≤ (s : Int)) = false := by simp; omega
      have hsz : (s : Int) < (L : Int) := by omega
      clear h hS
      go_enter Try.func39, Try.ntmps39
      go_wp2
      go_ret2
      exact ⟨rfl, rfl⟩

theorem len_any (h : Mem w base p k v u n T L S) : Calls Try.prog 47 #[.pointer (some ⟨p, 0, none⟩)] w fun e w' => e = .returned (.int .i64 n) ∧ w' = w := by
  have c1 := h.c1
  have hn6 := h.n6
  rcases h.tr.shape with ⟨rfl, rfl⟩ | ⟨g, cap, rfl, bg, lg, nc, cm⟩
  · clear h
    go_enter Try.func47, Try.ntmps47
    go_wp2
    go_ret
    exact ⟨rfl, rfl⟩
  · clear h
    go_enter Try.func47, Try.ntmps47
    go_wp2
    go_ret
    exact ⟨rfl, rfl⟩

/-- What Top, Pop answer. -/
abbrev TopV (s : Int) (r : Rk) (b : Bool) : Ending := .returned (.tuple #[.int .i64 s, V r, .bool b])

theorem top_none (h : Mem w base p k v u 0 T L S) : Calls Try.prog 43 #[.pointer (some ⟨p, 0, none⟩)] w fun e w' => e = TopV 0 ⟨0, 0, 0, 0⟩ false ∧ Gr w w' := by
  have C := Lib.hid (fun W (g : Gr w W) => len_any W base p k v u 0 T L S (h.gr g))
  clear h
  go_enter Try.func43, Try.ntmps43
  go_wp2_with fail
  refine (C.out _ ((Ke.refl _ _).alloc _)).mono ?_
  rintro e w1 ⟨rfl, hw⟩
  obtain rfl := hw.symm
  clear hw
  go_wp2
  exact bodyPost_ret (v := .tuple #[.int .i64 0, V ⟨0, 0, 0, 0⟩, .bool false]) (by simp [results, Try.results43, go_sem]) rfl ⟨rfl, (Ke.refl _ _).alloc _⟩

theorem top_some (h : Mem w base p k v u n T L S) (hn : 0 < n) : Calls Try.prog 43 #[.pointer (some ⟨p, 0, none⟩)] w fun e w' => e = TopV (T 0).s (T 0).r true ∧ Gr w w' := by
  have C := Lib.hid (fun W (g : Gr w W) => len_any W base p k v u n T L S (h.gr g))
  obtain ⟨g, cap, rfl, bg, lg, nc, cm⟩ := h.tr.form hn
  have c1 := h.c1
  have hn6 := h.n6
  have pl := h.pl
  obtain ⟨t0, t1, t2, t3, t4⟩ := tree_cells h.tr 0 hn
  generalize T 0 = y at *
  obtain ⟨ys, yd, yb, yg, yi⟩ := y
  simp only [Nat.zero_mul, Nat.zero_add] at t0 t1 t2 t3 t4
  have e1 : ((n : Int) == 0) = false := by simp; omega
  have hnz : 0 < (n : Int) := by omega
  clear h
  go_enter Try.func43, Try.ntmps43
  go_wp2_with fail
  refine (C.out _ ((Ke.refl _ _).alloc _)).mono ?_
  rintro e w1 ⟨rfl, hw⟩
  obtain rfl := hw.symm
  clear hw
  go_wp2
  go_region
  go_wp2
  refine bodyPost_ret (v := .tuple #[.int .i64 ys, V ⟨yd, yb, yg, yi⟩, .bool true]) (by simp [results, Try.results43, go_sem]) rfl ⟨rfl, ?_⟩
  repeat (first | exact Ke.refl _ _ | with_reducible apply Ke.drew | with_reducible apply Ke.alloc | with_reducible refine Ke.set ?_ (.inr (by simp)) _)
end

theorem new_any (w : World) (k : Int) : Calls Try.prog 32 #[.int .i64 k] w fun e w' => e = .returned (.pointer (some ⟨w.heap.size, 0, none⟩)) ∧ w' = w.alloc (.cells #[.int .i64 k, .slice none 0 0, .slice none 0 0] 79) := by
  go_enter Try.func32, Try.ntmps32
  go_wp2
  go_ret
  exact ⟨rfl, rfl⟩
theorem mem_new (w : World) (base : Nat) (hb : base ≤ w.heap.size) (k : Int) (T : Nat → En) (S : Nat → Nat) : Mem (w.alloc (.cells #[.int .i64 k, .slice none 0 0, .slice none 0 0] 79)) base w.heap.size k (.slice none 0 0) (.slice none 0 0) 0 T 0 S := by
  have hb' : (w.alloc (.cells #[.int .i64 k, .slice none 0 0, .slice none 0 0] 79)).heap[w.heap.size]? = some (.cells #[.int .i64 k, .slice none 0 0, .slice none 0 0] 79 (0, 0)) := heap_alloc_new w _
  refine ⟨hb, by omega, by omega, by simp [go_sem], by simp [go_sem], by simp [go_sem], fun o => ?_, ?_, ?_, by simp [Value.ownBlock], by simp [Value.ownBlock], fun g hg => by simp [Value.ownBlock] at hg⟩
  · exact frozen_of_row _ _ _ _ _ hb'
  · exact World.ownsRow_nil _ _ _ _
  · exact World.ownsRow_nil _ _ _ _
end Go.Proofs.Ytkapejgokcpbiaa
