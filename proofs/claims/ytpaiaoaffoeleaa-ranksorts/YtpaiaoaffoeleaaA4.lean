/- Ranks: the plain order, worlds that have only grown, contracts of Less, compare, Made, RankLess, Of, RankOf and awake. -/
import Derived.Test.YtpaiaoaffoeleaaC2
import Derived.Shelf.SlSortCmp.KitK
namespace Go.Proofs.Ytpaiaoaffoeleaa
open Go.RowKit Go.Sort
set_option linter.unusedVariables false

/-- A rank, plain. -/
structure Rk where
  d : Int
  b : Int
  g : Int
  i : Int
  deriving Inhabited, DecidableEq

/-- Does the first go ahead of the second? -/
def lessB (x y : Rk) : Bool :=
  if x.d ≠ y.d then decide (x.d < y.d) else if x.b ≠ y.b then decide (y.b < x.b) else if x.b = 1 ∧ x.g ≠ y.g then decide (y.g < x.g) else decide (x.i < y.i)

/-- Some draws, some blocks laid behind: nothing else. -/
def Gr (w w' : World) : Prop := ∃ q os, w' = grow (w.drewN q) os

theorem Gr.refl (w : World) : Gr w w := ⟨0, #[], by rw [grow_empty]; rfl⟩
theorem Gr.trans {a b c : World} (h : Gr a b) (k : Gr b c) : Gr a c := by
  obtain ⟨n, os, rfl⟩ := h
  obtain ⟨q, os', rfl⟩ := k
  exact ⟨n + q, os ++ os', by show grow (grow ((a.drewN n).drewN q) os) os' = _; rw [grow_grow, World.drewN_drewN]⟩
theorem Gr.drewN {a b : World} (h : Gr a b) (q : Nat) : Gr a (b.drewN q) := h.trans ⟨q, #[], by rw [grow_empty]⟩
theorem Gr.drew {a b : World} (h : Gr a b) : Gr a b.drew := h.drewN 1
theorem Gr.alloc {a b : World} (h : Gr a b) (o : Obj) : Gr a (b.alloc o) := h.trans ⟨0, #[o], by rw [alloc_eq_grow]; rfl⟩
theorem Gr.size {a b : World} (h : Gr a b) : a.heap.size ≤ b.heap.size := by
  obtain ⟨n, os, rfl⟩ := h
  rw [size_grow]; show a.heap.size ≤ a.heap.size + _; omega
theorem Gr.set {a b : World} (h : Gr a b) {blk : Nat} (hb : a.heap.size ≤ blk) (o : Nat) (v : Value) : Gr a (b.setCell ⟨blk, o, none⟩ v) := by
  obtain ⟨n, os, rfl⟩ := h
  exact ⟨n, _, by rw [setCell_eq, mapBlock_grow_new _ _ _ _ (by exact hb)]⟩
theorem Gr.cell {a b : World} (h : Gr a b) {p : Addr} (hp : p.block < a.heap.size) : b.cell? p = a.cell? p := by
  obtain ⟨n, os, rfl⟩ := h
  rw [cell?_grow _ _ _ (by exact hp)]; rfl
theorem Gr.frozen {a b : World} (h : Gr a b) {p : Addr} (hp : p.block < a.heap.size) : b.frozen? p = a.frozen? p := by
  obtain ⟨n, os, rfl⟩ := h
  rw [frozen?_grow _ _ _ (by exact hp)]; rfl
theorem Gr.below {a b : World} (h : Gr a b) : Below a.heap.size a b := by
  obtain ⟨n, os, rfl⟩ := h
  exact ⟨rfl, rfl, rfl, by rw [size_grow]; show a.heap.size ≤ a.heap.size + _; omega, fun k hk => by rw [heap_grow_old _ _ (by exact hk)]; rfl⟩

/-- A rank as the program has it. -/
abbrev V (x : Rk) : Value := .agg #[.int .i64 x.d, .int .i64 x.b, .int .i64 x.g, .int .i64 x.i]

theorem less_cases (x y : Rk) : (((x.d != y.d) = true ∧ lessB x y = decide (x.d < y.d)) ∨ ((x.d != y.d) = false ∧ (x.b != y.b) = true ∧ lessB x y = decide (y.b < x.b))
    ∨ ((x.d != y.d) = false ∧ (x.b != y.b) = false ∧ (x.b == 1) = true ∧ (x.g != y.g) = true ∧ lessB x y = decide (y.g < x.g))
    ∨ ((x.d != y.d) = false ∧ (x.b != y.b) = false ∧ (x.b == 1) = true ∧ (x.g != y.g) = false ∧ lessB x y = decide (x.i < y.i))
    ∨ ((x.d != y.d) = false ∧ (x.b != y.b) = false ∧ (x.b == 1) = false ∧ lessB x y = decide (x.i < y.i))) := by
  unfold lessB
  by_cases h1 : x.d = y.d <;> by_cases h2 : x.b = y.b <;> by_cases h3 : x.b = 1 <;> by_cases h4 : x.g = y.g <;> simp [h1, h2, h3, h4] <;> (try simp_all)

set_option maxHeartbeats 1000000 in
theorem less_any (x y : Rk) (w : World) : Calls Try.prog 10 #[V x, V y] w fun e w' => e = .returned (.bool (lessB x y)) ∧ Gr w w' := by
  obtain ⟨xd, xb, xg, xi⟩ := x
  obtain ⟨yd, yb, yg, yi⟩ := y
  rcases less_cases ⟨xd, xb, xg, xi⟩ ⟨yd, yb, yg, yi⟩ with ⟨h1, hv⟩ | ⟨h1, h2, hv⟩ | ⟨h1, h2, h3, h4, hv⟩ | ⟨h1, h2, h3, h4, hv⟩ | ⟨h1, h2, h3, hv⟩
  all_goals
    have HV := Lib.hid hv
    clear hv
    simp only at *
    go_enter Try.func10, Try.ntmps10
    go_wp2
    go_ret
    exact ⟨ret_bool HV.out.symm, ((Gr.refl _).alloc _).alloc _⟩

set_option maxHeartbeats 1000000 in
theorem rless_any (x y : Rk) (w : World) : Calls Try.prog 12 #[V x, V y] w fun e w' => e = .returned (.bool (lessB x y)) ∧ Gr w w' := by
  obtain ⟨xd, xb, xg, xi⟩ := x
  obtain ⟨yd, yb, yg, yi⟩ := y
  rcases less_cases ⟨xd, xb, xg, xi⟩ ⟨yd, yb, yg, yi⟩ with ⟨h1, hv⟩ | ⟨h1, h2, hv⟩ | ⟨h1, h2, h3, h4, hv⟩ | ⟨h1, h2, h3, h4, hv⟩ | ⟨h1, h2, h3, hv⟩
  all_goals
    have HV := Lib.hid hv
    clear hv
    simp only at *
    go_enter Try.func12, Try.ntmps12
    go_wp2
    go_ret
    exact ⟨ret_bool HV.out.symm, ((Gr.refl _).alloc _).alloc _⟩

/-- What compare answers. -/
def cfR (x y : Rk) : Int := if lessB x y then -1 else if lessB y x then 1 else 0

set_option maxHeartbeats 1000000 in
theorem compare_any (x y : Rk) (w : World) : Calls Try.prog 22 #[V x, V y] w fun e w' => e = .returned (.int .i64 (cfR x y)) ∧ Gr w w' := by
  obtain ⟨p, hp⟩ : ∃ p, lessB x y = p := ⟨_, rfl⟩
  obtain ⟨q, hq⟩ : ∃ q, lessB y x = q := ⟨_, rfl⟩
  have HC : Hid (cfR x y = if p then -1 else if q then 1 else 0) := by show _ = _; unfold cfR; rw [hp, hq]
  have c1 : ∀ W, Calls Try.prog 10 #[V x, V y] W fun e w' => e = .returned (.bool p) ∧ Gr W w' := fun W => by rw [← hp]; exact less_any x y W
  have c2 : ∀ W, Calls Try.prog 10 #[V y, V x] W fun e w' => e = .returned (.bool q) ∧ Gr W w' := fun W => by rw [← hq]; exact less_any y x W
  have C1 := Lib.hid c1
  have C2 := Lib.hid c2
  clear hp hq c1 c2
  obtain ⟨xd, xb, xg, xi⟩ := x
  obtain ⟨yd, yb, yg, yi⟩ := y
  cases p
  · go_enter Try.func22, Try.ntmps22
    go_wp2_with fail
    refine (C1.out _).mono ?_
    rintro e w1 ⟨rfl, g1⟩
    have k0 : ∀ o, w1.cell? ⟨w.heap.size, o, none⟩ = ((w.alloc (.cells #[.int .i64 xd, .int .i64 xb, .int .i64 xg, .int .i64 xi] 26)).alloc (.cells #[.int .i64 yd, .int .i64 yb, .int .i64 yg, .int .i64 yi] 26)).cell? ⟨w.heap.size, o, none⟩ := fun o => g1.cell (by simp <;> omega)
    have k1 : ∀ o, w1.cell? ⟨w.heap.size + 1, o, none⟩ = ((w.alloc (.cells #[.int .i64 xd, .int .i64 xb, .int .i64 xg, .int .i64 xi] 26)).alloc (.cells #[.int .i64 yd, .int .i64 yb, .int .i64 yg, .int .i64 yi] 26)).cell? ⟨w.heap.size + 1, o, none⟩ := fun o => g1.cell (by simp <;> omega)
    go_wp2_with fail
    clear k0 k1
    refine (C2.out _).mono ?_
    rintro e w2 ⟨rfl, g2⟩
    cases q
    all_goals
      go_wp2
      go_ret
      exact ⟨ret_int (by rw [HC.out]; rfl), (((Gr.refl _).alloc _).alloc _).trans (g1.trans g2)⟩
  · go_enter Try.func22, Try.ntmps22
    go_wp2_with fail
    refine (C1.out _).mono ?_
    rintro e w1 ⟨rfl, g1⟩
    go_wp2
    go_ret
    exact ⟨ret_int (by rw [HC.out]; rfl), (((Gr.refl _).alloc _).alloc _).trans g1⟩

set_option maxHeartbeats 1000000 in
theorem made_any (x : Rk) (w : World) : Calls Try.prog 11 #[V x] w fun e w' => e = .returned (V x) ∧ Gr w w' := by
  obtain ⟨xd, xb, xg, xi⟩ := x
  go_enter Try.func11, Try.ntmps11
  go_wp2
  exact bodyPost_ret (v := .agg #[.int .i64 xd, .int .i64 xb, .int .i64 xg, .int .i64 xi]) (by simp [results, Try.results11, go_sem]) rfl ⟨rfl, ((Gr.refl _).alloc _).alloc _⟩

end Go.Proofs.Ytpaiaoaffoeleaa
