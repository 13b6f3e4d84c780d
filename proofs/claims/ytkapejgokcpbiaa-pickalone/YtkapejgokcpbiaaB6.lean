/- Worlds that keep all but some blocks; contracts of Less, RankLess, Made, of the heap's own less and ahead. -/
import Derived.Test.YtkapejgokcpbiaaA6
import Derived.Test.YtkapejgokcpbiaaChecked
import Derived.WalkKit
import Derived.StillTailTactics
import Derived.Lib.Hide
import Derived.IntWalk
import Derived.BigQuiet
import Derived.Deep.LoopGhost
import Derived.Deep.DeepCutAuto
namespace Go.Proofs.Ytkapejgokcpbiaa
open Go.RowKit Go.Lib
set_option linter.unusedVariables false

/-- All that was there is as it was, but the blocks of F. -/
structure Ke (F : Nat → Prop) (w w' : World) : Prop where
  os : w'.os = w.os
  tape : w'.tape = w.tape
  output : w'.output = w.output
  size : w.heap.size ≤ w'.heap.size
  block : ∀ k, k < w.heap.size → ¬ F k → w'.heap[k]? = w.heap[k]?
/-- Nothing but new blocks. -/
abbrev Gr (w w' : World) : Prop := Ke (fun _ => False) w w'

theorem Ke.refl (F : Nat → Prop) (w : World) : Ke F w w := ⟨rfl, rfl, rfl, Nat.le_refl _, fun _ _ _ => rfl⟩
theorem Ke.trans {F : Nat → Prop} {a b c : World} (h : Ke F a b) (k : Ke F b c) : Ke F a c :=
  ⟨k.os.trans h.os, k.tape.trans h.tape, k.output.trans h.output, Nat.le_trans h.size k.size, fun j hj hn => (k.block j (Nat.lt_of_lt_of_le hj h.size) hn).trans (h.block j hj hn)⟩
theorem Ke.mono {F G : Nat → Prop} {a b : World} (h : Ke F a b) (i : ∀ k, k < a.heap.size → F k → G k) : Ke G a b := ⟨h.os, h.tape, h.output, h.size, fun j hj hn => h.block j hj (fun q => hn (i j hj q))⟩
theorem Ke.of_gr {F : Nat → Prop} {a b : World} (h : Gr a b) : Ke F a b := h.mono (fun _ _ q => q.elim)
theorem Ke.drew {F : Nat → Prop} {a b : World} (h : Ke F a b) : Ke F a b.drew := ⟨h.os, h.tape, h.output, h.size, h.block⟩
theorem Ke.alloc {F : Nat → Prop} {a b : World} (h : Ke F a b) (o : Obj) : Ke F a (b.alloc o) := h.trans ⟨rfl, rfl, rfl, by simp, fun k hk _ => Below.heap_alloc _ _ _ hk⟩
theorem Ke.set {F : Nat → Prop} {a b : World} (h : Ke F a b) {p : Addr} (hp : F p.block ∨ a.heap.size ≤ p.block) (u : Value) : Ke F a (b.setCell p u) :=
  ⟨h.os, h.tape, h.output, by simpa [World.setCell] using h.size, fun k hk hn => (Below.heap_setCell _ _ _ _ (fun e => by
    rcases hp with q | q
    · rw [← e] at q; exact hn q
    · omega)).trans (h.block k hk hn)⟩
theorem Ke.grown {F : Nat → Prop} {a w w' : World} {row : Option Nat} (h : Ke F a w) (hg : w.grownBy w' row) (hr : ∀ k, row = some k → F k ∨ a.heap.size ≤ k) : Ke F a w' :=
  ⟨hg.os.trans h.os, hg.tape.trans h.tape, hg.output.trans h.output, Nat.le_trans h.size hg.size, fun k hk hn => (hg.block k (Nat.lt_of_lt_of_le hk h.size) (fun e => by
    rcases hr k e.symm with q | q
    · exact hn q
    · omega)).trans (h.block k hk hn)⟩
theorem Ke.cell {F : Nat → Prop} {w w' : World} (h : Ke F w w') {p : Addr} (hp : p.block < w.heap.size) (hn : ¬ F p.block) : w'.cell? p = w.cell? p := World.cell?_of_block (h.block p.block hp hn)
theorem Ke.frozen {F : Nat → Prop} {w w' : World} (h : Ke F w w') {p : Addr} (hp : p.block < w.heap.size) (hn : ¬ F p.block) : w'.frozen? p = w.frozen? p := World.frozen?_of_block (h.block p.block hp hn)
theorem Ke.below {F : Nat → Prop} {w w' : World} (h : Ke F w w') {B : Nat} (hB : B ≤ w.heap.size) (hn : ∀ k, k < B → ¬ F k) : Below B w w' := ⟨h.os, h.tape, h.output, h.size, fun k hk => h.block k (by omega) (hn k hk)⟩

theorem lt_of_cell {w : World} {a : Addr} {v : Value} (h : w.cell? a = some v) : a.block < w.heap.size := World.block_lt_of_cell? w a h
/-- A cell behind a call that only lays new blocks. -/
theorem gcell {w w' : World} (h : Gr w w') {a : Addr} {v : Value} (c : w.cell? a = some v) : w'.cell? a = some v := (h.cell (lt_of_cell c) (fun q => q)).trans c
theorem gcell' {w w' : World} (h : Gr w w') {a : Addr} {v : Value} (c : w.cell? a = some v) : w'.drew.cell? a = some v := gcell h.drew c

/-- A rank as the program has it. -/
abbrev V (x : Rk) : Value := .agg #[.int .i64 x.d, .int .i64 x.b, .int .i64 x.g, .int .i64 x.i]

theorem less_cases (x y : Rk) : (((x.d != y.d) = true ∧ lessB x y = decide (x.d < y.d)) ∨ ((x.d != y.d) = false ∧ (x.b != y.b) = true ∧ lessB x y = decide (y.b < x.b))
    ∨ ((x.d != y.d) = false ∧ (x.b != y.b) = false ∧ (x.b == 1) = true ∧ (x.g != y.g) = true ∧ lessB x y = decide (y.g < x.g))
    ∨ ((x.d != y.d) = false ∧ (x.b != y.b) = false ∧ (x.b == 1) = true ∧ (x.g != y.g) = false ∧ lessB x y = decide (x.i < y.i))
    ∨ ((x.d != y.d) = false ∧ (x.b != y.b) = false ∧ (x.b == 1) = false ∧ lessB x y = decide (x.i < y.i))) := by
  unfold lessB
  by_cases h1 : x.d = y.d <;> by_cases h2 : x.b = y.b <;> by_cases h3 : x.b = 1 <;> by_cases h4 : x.g = y.g <;> simp [h1, h2, h3, h4] <;> (try simp_all)

theorem ret_bool' {a b : Bool} (h : a = b) : Ending.returned (.bool a) = Ending.returned (.bool b) := by rw [h]

set_option maxHeartbeats 1000000 in
theorem less_any (x y : Rk) (w : World) : Calls Try.prog 51 #[V x, V y] w fun e w' => e = .returned (.bool (lessB x y)) ∧ Gr w w' := by
  obtain ⟨xd, xb, xg, xi⟩ := x
  obtain ⟨yd, yb, yg, yi⟩ := y
  rcases less_cases ⟨xd, xb, xg, xi⟩ ⟨yd, yb, yg, yi⟩ with ⟨h1, hv⟩ | ⟨h1, h2, hv⟩ | ⟨h1, h2, h3, h4, hv⟩ | ⟨h1, h2, h3, h4, hv⟩ | ⟨h1, h2, h3, hv⟩
  all_goals
    have HV := Lib.hid hv
    clear hv
    simp only at *
    go_enter Try.func51, Try.ntmps51
    go_wp2
    go_ret
    exact ⟨ret_bool' HV.out.symm, ((Ke.refl _ _).alloc _).alloc _⟩

set_option maxHeartbeats 1000000 in
theorem rless_any (x y : Rk) (w : World) : Calls Try.prog 27 #[V x, V y] w fun e w' => e = .returned (.bool (lessB x y)) ∧ Gr w w' := by
  obtain ⟨xd, xb, xg, xi⟩ := x
  obtain ⟨yd, yb, yg, yi⟩ := y
  rcases less_cases ⟨xd, xb, xg, xi⟩ ⟨yd, yb, yg, yi⟩ with ⟨h1, hv⟩ | ⟨h1, h2, hv⟩ | ⟨h1, h2, h3, h4, hv⟩ | ⟨h1, h2, h3, h4, hv⟩ | ⟨h1, h2, h3, hv⟩
  all_goals
    have HV := Lib.hid hv
    clear hv
    simp only at *
    go_enter Try.func27, Try.ntmps27
    go_wp2
    go_ret
    exact ⟨ret_bool' HV.out.symm, ((Ke.refl _ _).alloc _).alloc _⟩

set_option maxHeartbeats 1000000 in
theorem made_any (x : Rk) (w : World) : Calls Try.prog 13 #[V x] w fun e w' => e = .returned (V x) ∧ Gr w w' := by
  obtain ⟨xd, xb, xg, xi⟩ := x
  go_enter Try.func13, Try.ntmps13
  go_wp2
  exact bodyPost_ret (v := .agg #[.int .i64 xd, .int .i64 xb, .int .i64 xg, .int .i64 xi]) (by simp [results, Try.results13, go_sem]) rfl ⟨rfl, ((Ke.refl _ _).alloc _).alloc _⟩

/-! ### the heap's own order -/
theorem hless_time (p : Nat) (k : Int) (hk : k = 2) (x y : Rk) (w : World) (c0 : w.cell? ⟨p, 0, none⟩ = some (.int .i64 k)) : Calls Try.prog 50 #[.pointer (some ⟨p, 0, none⟩), V x, V y] w fun e w' => e = .returned (.bool (ltK k x y)) ∧ Gr w w' := by
  subst hk
  have hp := lt_of_cell c0
  simp only at hp
  have hv : ltK 2 x y = (decide (x.d < y.d) || (decide (x.d = y.d) && decide (x.i < y.i))) := by simp [ltK]
  have HV := Lib.hid hv
  clear hv
  obtain ⟨xd, xb, xg, xi⟩ := x
  obtain ⟨yd, yb, yg, yi⟩ := y
  by_cases h1 : xd < yd
  · have d1 : decide (xd < yd) = true := by simp [h1]
    go_enter Try.func50, Try.ntmps50
    go_wp2
    go_ret
    exact ⟨ret_bool' (by rw [HV.out]; simp [h1]), ((Ke.refl _ _).alloc _).alloc _⟩
  · have d1 : decide (xd < yd) = false := by simp [h1]
    by_cases h2 : xd = yd
    · have d2 : (xd == yd) = true := by simp [h2]
      obtain ⟨b, hb⟩ : ∃ b, decide (xi < yi) = b := ⟨_, rfl⟩
      have HB := Lib.hid hb
      have H2 := Lib.hid h2
      clear h1 h2
      go_enter Try.func50, Try.ntmps50
      go_wp2
      go_ret
      exact ⟨ret_bool' (by rw [HV.out]; simp [H2.out, ← HB.out]), ((Ke.refl _ _).alloc _).alloc _⟩
    · have d2 : (xd == yd) = false := by simp [h2]
      clear h1
      go_enter Try.func50, Try.ntmps50
      go_wp2
      go_ret
      exact ⟨ret_bool' (by rw [HV.out]; simp_all), ((Ke.refl _ _).alloc _).alloc _⟩

theorem hless_rank (p : Nat) (k : Int) (hk : k ≠ 2) (x y : Rk) (w : World) (c0 : w.cell? ⟨p, 0, none⟩ = some (.int .i64 k)) : Calls Try.prog 50 #[.pointer (some ⟨p, 0, none⟩), V x, V y] w fun e w' => e = .returned (.bool (ltK k x y)) ∧ Gr w w' := by
  have hp := lt_of_cell c0
  simp only at hp
  have hv : ltK k x y = lessB x y := by simp [ltK, hk]
  rw [hv]
  have d1 : (k == 2) = false := by simp [hk]
  have c1 := Lib.hid (fun W => less_any x y W)
  clear hv hk
  obtain ⟨l, hl⟩ : ∃ l, lessB x y = l := ⟨_, rfl⟩
  rw [hl] at c1 ⊢
  clear hl
  obtain ⟨xd, xb, xg, xi⟩ := x
  obtain ⟨yd, yb, yg, yi⟩ := y
  go_enter Try.func50, Try.ntmps50
  go_wp2_with fail
  refine (c1.out _).mono ?_
  rintro e w1 ⟨rfl, g1⟩
  go_wp2
  go_ret
  exact ⟨rfl, (((Ke.refl _ _).alloc _).alloc _).trans g1⟩

theorem hless_any (p : Nat) (k : Int) (x y : Rk) (w : World) (c0 : w.cell? ⟨p, 0, none⟩ = some (.int .i64 k)) : Calls Try.prog 50 #[.pointer (some ⟨p, 0, none⟩), V x, V y] w fun e w' => e = .returned (.bool (ltK k x y)) ∧ Gr w w' := by
  by_cases hk : k = 2
  · exact hless_time p k hk x y w c0
  · exact hless_rank p k hk x y w c0

end Go.Proofs.Ytkapejgokcpbiaa
