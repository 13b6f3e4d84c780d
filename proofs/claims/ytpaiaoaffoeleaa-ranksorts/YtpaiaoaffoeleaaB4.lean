/- Contracts of rank.Of, of the document's RankOf, and of awake. -/
import Derived.Test.YtpaiaoaffoeleaaA4
namespace Go.Proofs.Ytpaiaoaffoeleaa
open Go.RowKit Go.Sort
set_option linter.unusedVariables false

set_option maxHeartbeats 1000000 in
theorem of_heavy (e p i r id d b g x y : Int) (w : World) (h : Quan e p i) (hh : p ≤ 2 * e) (hl : e < p) (hd : dl e p i = d) (hb : bt e p i = b) (hg : gp e p i = g) (hx : IntKind.i64.wrap (r + d) = x) (hy : IntKind.i64.wrap (g + r) = y) :
    Calls Try.prog 9 #[.int .i64 e, .int .i64 p, .int .i64 i, .int .i64 r, .int .i64 id] w fun q w' => q = .returned (V ⟨x, b, y, id⟩) ∧ Gr w w' := by
  obtain ⟨d0, d1⟩ := dl_bd h
  obtain ⟨g0, g1⟩ := gp_bd h hl
  have hz : (g != 0) = true := by simp; omega
  have HD := Lib.hid hd
  have HB := Lib.hid hb
  have HG := Lib.hid hg
  clear hd hb hg
  go_enter Try.func9, Try.ntmps9
  go_wp2_with fail
  refine (may_yes _ _ _ _ h).mono ?_
  rintro q w1 ⟨rfl, rfl⟩
  go_wp2_with fail
  refine (deadline_yes _ _ _ _ _ h HD.out).mono ?_
  rintro q w1 ⟨rfl, rfl⟩
  go_wp2_with fail
  refine (bit_yes _ _ _ _ _ h HB.out).mono ?_
  rintro q w1 ⟨rfl, rfl⟩
  go_wp2_with fail
  refine (group_yes _ _ _ _ _ h hh hl HG.out).mono ?_
  rintro q w1 ⟨rfl, rfl⟩
  go_wp2
  exact bodyPost_ret (v := .agg #[.int .i64 x, .int .i64 b, .int .i64 y, .int .i64 id]) (by simp [results, Try.results9, go_sem]) rfl ⟨rfl, ((Gr.refl _).alloc _).alloc _⟩

set_option maxHeartbeats 1000000 in
theorem of_flat (e p i r id d b x : Int) (w : World) (h : Quan e p i) (hh : 2 * e < p ∨ e = p) (hd : dl e p i = d) (hb : bt e p i = b) (hx : IntKind.i64.wrap (r + d) = x) :
    Calls Try.prog 9 #[.int .i64 e, .int .i64 p, .int .i64 i, .int .i64 r, .int .i64 id] w fun q w' => q = .returned (V ⟨x, b, 0, id⟩) ∧ Gr w w' := by
  obtain ⟨d0, d1⟩ := dl_bd h
  have HD := Lib.hid hd
  have HB := Lib.hid hb
  have HH := Lib.hid hh
  clear hd hb hh
  go_enter Try.func9, Try.ntmps9
  go_wp2_with fail
  refine (may_yes _ _ _ _ h).mono ?_
  rintro q w1 ⟨rfl, rfl⟩
  go_wp2_with fail
  refine (deadline_yes _ _ _ _ _ h HD.out).mono ?_
  rintro q w1 ⟨rfl, rfl⟩
  go_wp2_with fail
  refine (bit_yes _ _ _ _ _ h HB.out).mono ?_
  rintro q w1 ⟨rfl, rfl⟩
  go_wp2_with fail
  refine (group_no _ _ _ _ (.inr ⟨h, HH.out⟩)).mono ?_
  rintro q w1 ⟨rfl, rfl⟩
  go_wp2
  exact bodyPost_ret (v := .agg #[.int .i64 x, .int .i64 b, .int .i64 0, .int .i64 id]) (by simp [results, Try.results9, go_sem]) rfl ⟨rfl, ((Gr.refl _).alloc _).alloc _⟩

set_option maxHeartbeats 1000000 in
theorem of_no (e p i r id : Int) (w : World) (h : ¬ Quan e p i) :
    Calls Try.prog 9 #[.int .i64 e, .int .i64 p, .int .i64 i, .int .i64 r, .int .i64 id] w fun q w' => q = .returned (V ⟨0, 0, 0, id⟩) ∧ Gr w w' := by
  go_enter Try.func9, Try.ntmps9
  go_wp2_with fail
  refine (may_no _ _ _ _ h).mono ?_
  rintro q w1 ⟨rfl, rfl⟩
  go_wp2
  exact bodyPost_ret (v := .agg #[.int .i64 0, .int .i64 0, .int .i64 0, .int .i64 id]) (by simp [results, Try.results9, go_sem]) rfl ⟨rfl, (Gr.refl _).alloc _⟩

/-- The rank of a quantum, in whichever case. -/
def IsOf (e p i r id : Int) (v : Rk) : Prop :=
  (¬ Quan e p i ∧ v = ⟨0, 0, 0, id⟩) ∨ (Quan e p i ∧ (2 * e < p ∨ e = p) ∧ v = ⟨IntKind.i64.wrap (r + dl e p i), bt e p i, 0, id⟩)
    ∨ (Quan e p i ∧ p ≤ 2 * e ∧ e < p ∧ v = ⟨IntKind.i64.wrap (r + dl e p i), bt e p i, IntKind.i64.wrap (gp e p i + r), id⟩)

theorem isOf_ex (e p i r id : Int) : ∃ v, IsOf e p i r id v := by
  by_cases h : Quan e p i
  · by_cases a : 2 * e < p
    · exact ⟨_, .inr (.inl ⟨h, .inl a, rfl⟩)⟩
    · by_cases b : e = p
      · exact ⟨_, .inr (.inl ⟨h, .inr b, rfl⟩)⟩
      · exact ⟨_, .inr (.inr ⟨h, by omega, by have := h.ep; omega, rfl⟩)⟩
  · exact ⟨_, .inl ⟨h, rfl⟩⟩

theorem of_at {e p i r id : Int} {v : Rk} (w : World) (hv : IsOf e p i r id v) :
    Calls Try.prog 9 #[.int .i64 e, .int .i64 p, .int .i64 i, .int .i64 r, .int .i64 id] w fun q w' => q = .returned (V v) ∧ Gr w w' := by
  rcases hv with ⟨h, rfl⟩ | ⟨h, hh, rfl⟩ | ⟨h, hh, hl, rfl⟩
  · exact of_no _ _ _ _ _ w h
  · exact of_flat _ _ _ _ _ _ _ _ w h hh rfl rfl rfl
  · exact of_heavy _ _ _ _ _ _ _ _ _ _ w h hh hl rfl rfl rfl rfl rfl

set_option maxHeartbeats 1000000 in
theorem rankOf_heavy (e p i r id d b g x y : Int) (w : World) (h : Quan e p i) (hh : p ≤ 2 * e) (hl : e < p) (hd : dl e p i = d) (hb : bt e p i = b) (hg : gp e p i = g) (hx : IntKind.i64.wrap (d + r) = x) (hy : IntKind.i64.wrap (g + r) = y) :
    Calls Try.prog 13 #[.int .i64 e, .int .i64 p, .int .i64 i, .int .i64 r, .int .i64 id] w fun q w' => q = .returned (V ⟨x, b, y, id⟩) ∧ Gr w w' := by
  have c := window_heavy e p i
  obtain ⟨d0, d1⟩ := dl_bd h
  obtain ⟨g0, g1⟩ := gp_bd h hl
  rw [hd] at d0 d1 g0
  rw [hg] at g0 g1
  have hz1 : (d == 0) = false := by simp; omega
  have hz : decide (g > 0) = true := by simp; omega
  have hz2 : 0 < g := by omega
  rw [hd, hb, hg] at c
  have C := Lib.hid c
  clear c hd hb hg
  go_enter Try.func13, Try.ntmps13
  go_wp2_with fail
  refine (C.out _ h hh hl).mono ?_
  rintro q w1 ⟨rfl, j, rfl⟩
  unfold Four
  go_wp2
  exact bodyPost_ret (v := .agg #[.int .i64 x, .int .i64 b, .int .i64 y, .int .i64 id]) (by simp [results, Try.results13, go_sem]) rfl ⟨rfl, ((((((Gr.refl _).alloc _).drewN _).set (Nat.le_refl _) _ _).set (Nat.le_refl _) _ _).set (Nat.le_refl _) _ _).set (Nat.le_refl _) _ _⟩

set_option maxHeartbeats 1000000 in
theorem rankOf_flat (e p i r id d b x : Int) (w : World) (h : Quan e p i) (hh : 2 * e < p ∨ e = p) (hd : dl e p i = d) (hb : bt e p i = b) (hx : IntKind.i64.wrap (d + r) = x) :
    Calls Try.prog 13 #[.int .i64 e, .int .i64 p, .int .i64 i, .int .i64 r, .int .i64 id] w fun q w' => q = .returned (V ⟨x, b, 0, id⟩) ∧ Gr w w' := by
  have c := window_flat e p i
  obtain ⟨d0, d1⟩ := dl_bd h
  rw [hd] at d0 d1
  have hz1 : (d == 0) = false := by simp; omega
  have hhh : 2 * e < p ∨ (p ≤ 2 * e ∧ e = p) := by have := h.e1; omega
  have HHH := Lib.hid hhh
  rw [hd, hb] at c
  have C := Lib.hid c
  clear c hd hb hhh hh
  go_enter Try.func13, Try.ntmps13
  go_wp2_with fail
  refine (C.out _ h HHH.out).mono ?_
  rintro q w1 ⟨rfl, rfl⟩
  unfold Four
  go_wp2
  exact bodyPost_ret (v := .agg #[.int .i64 x, .int .i64 b, .int .i64 0, .int .i64 id]) (by simp [results, Try.results13, go_sem]) rfl ⟨rfl, (Gr.refl _).alloc _⟩

set_option maxHeartbeats 1000000 in
theorem rankOf_no (e p i r id : Int) (w : World) (h : ¬ Quan e p i) :
    Calls Try.prog 13 #[.int .i64 e, .int .i64 p, .int .i64 i, .int .i64 r, .int .i64 id] w fun q w' => q = .returned (V ⟨0, 0, 0, id⟩) ∧ Gr w w' := by
  go_enter Try.func13, Try.ntmps13
  go_wp2_with fail
  refine (window_no _ _ _ _ h).mono ?_
  rintro q w1 ⟨rfl, rfl⟩
  unfold Four
  go_wp2
  exact bodyPost_ret (v := .agg #[.int .i64 0, .int .i64 0, .int .i64 0, .int .i64 id]) (by simp [results, Try.results13, go_sem]) rfl ⟨rfl, (Gr.refl _).alloc _⟩

theorem rankOf_at {e p i r id : Int} {v : Rk} (w : World) (hv : IsOf e p i r id v) :
    Calls Try.prog 13 #[.int .i64 e, .int .i64 p, .int .i64 i, .int .i64 r, .int .i64 id] w fun q w' => q = .returned (V v) ∧ Gr w w' := by
  rcases hv with ⟨h, rfl⟩ | ⟨h, hh, rfl⟩ | ⟨h, hh, hl, rfl⟩
  · exact rankOf_no _ _ _ _ _ w h
  · exact rankOf_flat _ _ _ _ _ _ _ _ w h hh rfl rfl (by rw [Int.add_comm])
  · exact rankOf_heavy _ _ _ _ _ _ _ _ _ _ w h hh hl rfl rfl rfl (by rw [Int.add_comm]) rfl

theorem lt_of_cell {w : World} {a : Addr} {v : Value} (hc : w.cell? a = some v) : a.block < w.heap.size := by
  by_cases hlt : a.block < w.heap.size
  · exact hlt
  · have hn : w.heap[a.block]? = none := Array.getElem?_eq_none (by omega)
    simp [World.cell?, hn] at hc

/-- Cells that lay there before stay. -/
theorem gcell4 {w w' : World} (h : Gr w w') {a : Addr} {v : Value} (hc : w.cell? a = some v) : w'.cell? a = some v := by
  rw [h.cell (lt_of_cell hc)]; exact hc

set_option maxHeartbeats 2000000 in
theorem awake_true (w : World) : Calls Try.prog 8 #[] w fun q w' => q = .returned (.bool true) ∧ Gr w w' := by
  have q1 : Quan 1 3 1 := ⟨⟨by omega, by omega, by omega⟩, by omega, by omega⟩
  have q2 : Quan 2 5 1 := ⟨⟨by omega, by omega, by omega⟩, by omega, by omega⟩
  have c1 := fun W => of_flat 1 3 1 0 5 3 0 3 W q1 (.inl (by omega)) (by decide) (by decide) (by decide)
  have c2 := fun W => of_flat 2 5 1 0 4 3 1 3 W q2 (.inl (by omega)) (by decide) (by decide) (by decide)
  have c3 : ∀ W, Calls Try.prog 10 #[V ⟨3, 1, 0, 4⟩, V ⟨3, 0, 0, 5⟩] W fun e w' => e = .returned (.bool true) ∧ Gr W w' := less_any ⟨3, 1, 0, 4⟩ ⟨3, 0, 0, 5⟩
  have c4 : ∀ W, Calls Try.prog 10 #[V ⟨3, 0, 0, 5⟩, V ⟨3, 1, 0, 4⟩] W fun e w' => e = .returned (.bool false) ∧ Gr W w' := less_any ⟨3, 0, 0, 5⟩ ⟨3, 1, 0, 4⟩
  have C1 := Lib.hid c1
  have C2 := Lib.hid c2
  have C3 := Lib.hid c3
  have C4 := Lib.hid c4
  clear c1 c2 c3 c4 q1 q2
  go_enter Try.func8, Try.ntmps8
  go_wp2_with fail
  refine (C1.out _).mono ?_
  rintro q w1 ⟨rfl, g1⟩
  go_wp2_with fail
  refine (C2.out _).mono ?_
  rintro q w2 ⟨rfl, g2⟩
  go_wp2_with fail
  refine (C3.out _).mono ?_
  rintro q w3 ⟨rfl, g3⟩
  have k0 : ∀ o, w3.cell? ⟨w2.heap.size, o, none⟩ = ((w2.alloc (.cells #[.int .i64 3, .int .i64 0, .int .i64 0, .int .i64 5] 26)).alloc (.cells #[.int .i64 3, .int .i64 1, .int .i64 0, .int .i64 4] 26)).cell? ⟨w2.heap.size, o, none⟩ := fun o => g3.cell (by simp <;> omega)
  have k1 : ∀ o, w3.cell? ⟨w2.heap.size + 1, o, none⟩ = ((w2.alloc (.cells #[.int .i64 3, .int .i64 0, .int .i64 0, .int .i64 5] 26)).alloc (.cells #[.int .i64 3, .int .i64 1, .int .i64 0, .int .i64 4] 26)).cell? ⟨w2.heap.size + 1, o, none⟩ := fun o => g3.cell (by simp <;> omega)
  go_wp2_with fail
  clear k0 k1
  refine (C4.out _).mono ?_
  rintro q w4 ⟨rfl, g4⟩
  go_wp2
  go_ret
  exact ⟨rfl, g1.trans (g2.trans ((((Gr.refl _).alloc _).alloc _).trans (g3.trans g4)))⟩

/-- A rank in a box of its own. -/
structure Box (W : World) (B : Nat) (x : Rk) : Prop where
  c0 : W.cell? ⟨B, 0, none⟩ = some (.int .i64 x.d)
  c1 : W.cell? ⟨B, 1, none⟩ = some (.int .i64 x.b)
  c2 : W.cell? ⟨B, 2, none⟩ = some (.int .i64 x.g)
  c3 : W.cell? ⟨B, 3, none⟩ = some (.int .i64 x.i)
  f0 : ∀ o, W.frozen? ⟨B, o, none⟩ = false

theorem Box.lt {W : World} {B : Nat} {x : Rk} (h : Box W B x) : B < W.heap.size := lt_of_cell h.c0
theorem Box.keep {W W' : World} {B : Nat} {x : Rk} (h : Box W B x) (g : Gr W W') : Box W' B x :=
  ⟨gcell4 g h.c0, gcell4 g h.c1, gcell4 g h.c2, gcell4 g h.c3, fun o => by rw [g.frozen (by exact h.lt)]; exact h.f0 o⟩
theorem Box.alloc {W : World} {B : Nat} {x : Rk} (h : Box W B x) (o : Obj) : Box (W.alloc o) B x := h.keep ((Gr.refl _).alloc o)
theorem Box.new (W : World) (x : Rk) (t : TypeId) : Box (W.alloc (.cells #[.int .i64 x.d, .int .i64 x.b, .int .i64 x.g, .int .i64 x.i] t)) W.heap.size x :=
  ⟨by simp, by simp, by simp, by simp, by simp⟩

end Go.Proofs.Ytpaiaoaffoeleaa
