/- Contracts of Add, Get, All. -/
import Derived.Test.YthglpaijeijbhaaA1
namespace Go.Proofs.Ythglpaijeijbhaa
open Go.RowKit Go.Lib
set_option linter.unusedVariables false

theorem may_out {k : Int} (h : ¬ (0 ≤ k ∧ k < 5)) : false = decide (0 ≤ k ∧ k < 5) := by rw [decide_eq_false h]
theorem may_in {k : Int} (h : 0 ≤ k ∧ k < 5) : true = decide (0 ≤ k ∧ k < 5) := by rw [decide_eq_true h]

set_option maxRecDepth 100000 in
/-- Add, of a counter that is none. -/
theorem add_out {p : Nat} {k n : Int} (h : ¬ (0 ≤ k ∧ k < 5)) (w : World) : Calls Try.prog 10 #[.pointer (some ⟨p, 0, none⟩), .int .i64 k, .int .i64 n] w fun e w' => e = .returned (.int .i64 0) ∧ w' = w := by
  have C := Lib.hid (may_any k false (may_out h))
  clear h
  go_enter Try.func10, Try.ntmps10
  go_wp2_with (go_at_call 13; refine (C.out _).mono ?_; rintro e w1 ⟨rfl, rfl⟩)
  go_ret
  exact ⟨rfl, rfl⟩

set_option maxRecDepth 100000 in
/-- Add. -/
theorem add_in {w : World} {p : Nat} {c : Nat → Int} (m : M w p c) {k : Nat} (h : k < 5) {n s : Int} (hs : IntKind.i64.wrap (c k + n) = s) : Calls Try.prog 10 #[.pointer (some ⟨p, 0, none⟩), .int .i64 k, .int .i64 n] w fun e w' => e = .returned (.int .i64 s) ∧ Ke (fun j => j = p) w w' ∧ M w' p (add1 c k s) := by
  have C := Lib.hid (may_any k true (may_in (by omega)))
  have CA := Lib.hid (iadd_any (m.cell h) (m.frozen k) hs)
  have FIN : Hid (Ke (fun j => j = p) w (w.setCell ⟨p, k, none⟩ (.int .i64 s)) ∧ M (w.setCell ⟨p, k, none⟩ (.int .i64 s)) p (add1 c k s)) := Lib.hid ⟨(Ke.refl (fun j => j = p) w).set (p := ⟨p, k, none⟩) (.inl rfl) _, m.set k s⟩
  have b0 : (0 : Int) ≤ (k : Int) ∧ (k : Int) < (5 : Int) := by omega
  have lp := m.lt
  clear m h hs
  go_enter Try.func10, Try.ntmps10
  go_wp2_with (go_at_call 13; refine (C.out _).mono ?_; rintro e w1 ⟨rfl, rfl⟩)
  refine CA.out.mono ?_
  rintro e w1 ⟨rfl, rfl⟩
  go_wp2
  go_ret
  exact ⟨rfl, FIN.out⟩

set_option maxRecDepth 100000 in
/-- Get, of a counter that is none. -/
theorem get_out {p : Nat} {k : Int} (h : ¬ (0 ≤ k ∧ k < 5)) (w : World) : Calls Try.prog 11 #[.pointer (some ⟨p, 0, none⟩), .int .i64 k] w fun e w' => e = .returned (.int .i64 0) ∧ w' = w := by
  have C := Lib.hid (may_any k false (may_out h))
  clear h
  go_enter Try.func11, Try.ntmps11
  go_wp2_with (go_at_call 13; refine (C.out _).mono ?_; rintro e w1 ⟨rfl, rfl⟩)
  go_ret
  exact ⟨rfl, rfl⟩

set_option maxRecDepth 100000 in
/-- Get. -/
theorem get_in {w : World} {p : Nat} {c : Nat → Int} (m : M w p c) {k : Nat} (h : k < 5) : Calls Try.prog 11 #[.pointer (some ⟨p, 0, none⟩), .int .i64 k] w fun e w' => e = .returned (.int .i64 (c k)) ∧ w' = w := by
  have C := Lib.hid (may_any k true (may_in (by omega)))
  have CA := Lib.hid (iload_any (m.cell h))
  have b0 : (0 : Int) ≤ (k : Int) ∧ (k : Int) < (5 : Int) := by omega
  have lp := m.lt
  generalize c k = x at *
  clear m h
  go_enter Try.func11, Try.ntmps11
  go_wp2_with (go_at_call 13; refine (C.out _).mono ?_; rintro e w1 ⟨rfl, rfl⟩)
  refine CA.out.mono ?_
  rintro e w1 ⟨rfl, rfl⟩
  go_wp2
  go_ret
  exact ⟨rfl, rfl⟩

/-- The five as one value. -/
abbrev allV (c : Nat → Int) : Value := .agg #[.int .i64 (c 0), .int .i64 (c 1), .int .i64 (c 2), .int .i64 (c 3), .int .i64 (c 4)]
abbrev zeroO : Obj := .cells #[.int .i64 0, .int .i64 0, .int .i64 0, .int .i64 0, .int .i64 0] 26

/-- All, on its way. -/
structure AllS (w wr : World) (p : Nat) (c : Nat → Int) (R L k : Nat) : Prop where
  m : M wr p c
  lp : p < w.heap.size
  gr : Gr w wr
  lo : w.heap.size ≤ R
  ne : R < L
  row : wr.rowIs L 26 5 (fun j => .int .i64 (if j < k then c j else 0))
  res : wr.rowIs R 26 5 (fun _ => .int .i64 0)
theorem zero_row (w : World) : (w.alloc zeroO).rowIs w.heap.size 26 5 (fun _ => .int .i64 0) := World.rowIs_alloc w _ 26 (fun _ => .int .i64 0) (fun i hi => by
  simp only [List.size_toArray, List.length_cons, List.length_nil] at hi
  rcases (show i = 0 ∨ i = 1 ∨ i = 2 ∨ i = 3 ∨ i = 4 by omega) with rfl | rfl | rfl | rfl | rfl <;> rfl)
theorem alls_start {w : World} {p : Nat} {c : Nat → Int} (m : M w p c) : AllS w ((w.alloc zeroO).alloc zeroO) p c w.heap.size (w.heap.size + 1) 0 := by
  have g := (Ke.refl (fun _ => False) w).alloc zeroO
  have r := zero_row (w.alloc zeroO)
  rw [show (w.alloc zeroO).heap.size = w.heap.size + 1 by simp] at r
  exact ⟨m.gr (g.alloc zeroO), m.lt, g.alloc zeroO, Nat.le_refl _, by omega, r.congr (fun j _ => by simp), (zero_row w).alloc zeroO⟩
theorem AllS.set {w wr : World} {p : Nat} {c : Nat → Int} {R L k : Nat} (h : AllS w wr p c R L k) : AllS w (wr.setCell ⟨L, k, none⟩ (.int .i64 (c k))) p c R L (k + 1) := by
  have l1 := h.lo
  have l2 := h.ne
  have l3 := h.lp
  refine ⟨World.rowIs.setOther h.m (a := ⟨L, k, none⟩) (by simp; omega) _, h.lp, h.gr.set (p := ⟨L, k, none⟩) (.inr (by simp; omega)) _, l1, l2, (h.row.set k _).congr (fun j hj => ?_), h.res.setOther (a := ⟨L, k, none⟩) (by simp; omega) _⟩
  by_cases e : j = k
  · subst e
    simp
  · rw [if_neg e]
    by_cases q : j < k
    · rw [if_pos q, if_pos (by omega)]
    · rw [if_neg q, if_neg (by omega)]

set_option maxRecDepth 100000 in
set_option maxHeartbeats 1600000 in
/-- All. -/
theorem all_any {w : World} {p : Nat} {c : Nat → Int} (m : M w p c) : Calls Try.prog 12 #[.pointer (some ⟨p, 0, none⟩)] w fun e w' => e = .returned (allV c) ∧ Gr w w' := by
  have H0 := Lib.hid (alls_start m)
  have lp := m.lt
  clear m
  go_enter Try.func12, Try.ntmps12
  go_wp2_with fail
  generalize w.heap.size + 1 = L at *
  generalize w.heap.size = R at *
  generalize (w.alloc zeroO).alloc zeroO = w1 at *
  go_loopg [8] 5 (fun kx s8 wr => ∃ k : Nat, s8 = .int .i64 (k : Int) ∧ k ≤ 5 ∧ 5 - k ≤ kx ∧ Aside (AllS w wr p c R L k))
  case atStart => exact ⟨0, rfl, by omega, by omega, H0.out⟩
  case round =>
    clear H0
    obtain ⟨k, rfl, hk, hkx, D⟩ := hrel
    by_cases hlt : k < 5
    · have d0 : decide ((k : Int) < (5 : Int)) = true := by simp; omega
      have d1 : decide (k < 5) = true := by simp; omega
      have b0 : (0 : Int) ≤ (k : Int) ∧ (k : Int) < (5 : Int) := by omega
      have HD := Lib.hid D.out
      have CL := Lib.hid (iload_any (D.out.m.cell hlt))
      have lp2 := D.out.m.lt
      obtain ⟨v0, cv⟩ : ∃ v, wr.cell? ⟨L, k, none⟩ = some v := ⟨_, D.out.row.cell hlt⟩
      have cf := D.out.row.frozen k
      clear D
      go_wp2_with fail
      refine CL.out.mono ?_
      rintro e w2 ⟨rfl, rfl⟩
      go_wp2_with fail
      go_roundg (5 - (k + 1))
      case measure => omega
      case rel => exact ⟨k + 1, by go_num, by omega, by omega, HD.out.set⟩
    · obtain rfl : k = 5 := by omega
      have HD := Lib.hid D.out
      have r0 := D.out.row.cell (i := 0) (by omega)
      have r1 := D.out.row.cell (i := 1) (by omega)
      have r2 := D.out.row.cell (i := 2) (by omega)
      have r3 := D.out.row.cell (i := 3) (by omega)
      have r4 := D.out.row.cell (i := 4) (by omega)
      have s0 := D.out.res.cell (i := 0) (by omega)
      have s1 := D.out.res.cell (i := 1) (by omega)
      have s2 := D.out.res.cell (i := 2) (by omega)
      have s3 := D.out.res.cell (i := 3) (by omega)
      have s4 := D.out.res.cell (i := 4) (by omega)
      have sf := D.out.res.frozen
      have z0 := sf 0
      have z1 := sf 1
      have z2 := sf 2
      have z3 := sf 3
      have z4 := sf 4
      simp only [show (0 : Nat) < 5 by omega, show (1 : Nat) < 5 by omega, show (2 : Nat) < 5 by omega, show (3 : Nat) < 5 by omega, show (4 : Nat) < 5 by omega, if_true] at r0 r1 r2 r3 r4
      clear D sf
      go_wp2_with fail
      have l1 := HD.out.lo
      have FIN := Lib.hid (((((HD.out.gr.set (p := ⟨R, 0, none⟩) (.inr l1) (.int .i64 (c 0))).set (p := ⟨R, 1, none⟩) (.inr l1) (.int .i64 (c 1))).set (p := ⟨R, 2, none⟩) (.inr l1) (.int .i64 (c 2))).set (p := ⟨R, 3, none⟩) (.inr l1) (.int .i64 (c 3))).set (p := ⟨R, 4, none⟩) (.inr l1) (.int .i64 (c 4)))
      refine bodyPost_ret (v := allV c) (by simp [results, Try.results12, go_sem, *]) rfl ?_
      exact ⟨rfl, FIN.out⟩
end Go.Proofs.Ythglpaijeijbhaa
