/- Contract of Get. -/
import Derived.Test.YtgnfmmoanmhgpaaA3
namespace Go.Proofs.Ytgnfmmoanmhgpaa
open Go.RowKit Go.Lib
set_option linter.unusedVariables false

section
variable {w : World} {p g k m : Nat} {E : Nat → En}
abbrev zeO : Obj := .cells #[.int .i64 0, .int .i64 0, .int .i64 0, .int .i64 0, .int .i64 0, .int .i64 0, .int .i64 0, .int .i64 0, .int .i64 0, .bool false] 33
theorem ze_row (w : World) : (w.alloc zeO).rowIs w.heap.size 33 10 (cellE en0) := World.rowIs_alloc w _ 33 (cellE en0) (fun i hi => by
  simp only [List.size_toArray, List.length_cons, List.length_nil] at hi
  rcases (show i = 0 ∨ i = 1 ∨ i = 2 ∨ i = 3 ∨ i = 4 ∨ i = 5 ∨ i = 6 ∨ i = 7 ∨ i = 8 ∨ i = 9 by omega) with rfl | rfl | rfl | rfl | rfl | rfl | rfl | rfl | rfl | rfl <;> rfl)
/-- The result's box filled. -/
theorem put10 {W : World} {B : Nat} {f : Nat → Value} (h : W.rowIs B 33 10 f) (x : En) : ((((((((((W.setCell ⟨B, 0, none⟩ (.int .i64 x.q)).setCell ⟨B, 1, none⟩ (.int .i64 x.c)).setCell ⟨B, 2, none⟩ (.int .i64 x.p.e)).setCell ⟨B, 3, none⟩ (.int .i64 x.p.c)).setCell ⟨B, 4, none⟩ (.int .i64 x.p.i)).setCell ⟨B, 5, none⟩ (.int .i64 x.p.fn)).setCell ⟨B, 6, none⟩ (.int .i64 x.p.fd)).setCell ⟨B, 7, none⟩ (.int .i64 x.p.tn)).setCell ⟨B, 8, none⟩ (.int .i64 x.p.td)).setCell ⟨B, 9, none⟩ (.bool x.p.s)).rowIs B 33 10 (cellE x) := by
  refine ((((((((((h.set 0 _).set 1 _).set 2 _).set 3 _).set 4 _).set 5 _).set 6 _).set 7 _).set 8 _).set 9 _).congr (fun o ho => ?_)
  rcases (show o = 0 ∨ o = 1 ∨ o = 2 ∨ o = 3 ∨ o = 4 ∨ o = 5 ∨ o = 6 ∨ o = 7 ∨ o = 8 ∨ o = 9 by omega) with rfl | rfl | rfl | rfl | rfl | rfl | rfl | rfl | rfl | rfl <;> simp [cellE]
theorem gr10 {w W : World} {B : Nat} (g : Gr w W) (hB : w.heap.size ≤ B) (x : En) : Gr w ((((((((((W.setCell ⟨B, 0, none⟩ (.int .i64 x.q)).setCell ⟨B, 1, none⟩ (.int .i64 x.c)).setCell ⟨B, 2, none⟩ (.int .i64 x.p.e)).setCell ⟨B, 3, none⟩ (.int .i64 x.p.c)).setCell ⟨B, 4, none⟩ (.int .i64 x.p.i)).setCell ⟨B, 5, none⟩ (.int .i64 x.p.fn)).setCell ⟨B, 6, none⟩ (.int .i64 x.p.fd)).setCell ⟨B, 7, none⟩ (.int .i64 x.p.tn)).setCell ⟨B, 8, none⟩ (.int .i64 x.p.td)).setCell ⟨B, 9, none⟩ (.bool x.p.s)) := by
  exact ((((((((((g.set (p := ⟨B, 0, none⟩) (.inr hB) _).set (p := ⟨B, 1, none⟩) (.inr hB) _).set (p := ⟨B, 2, none⟩) (.inr hB) _).set (p := ⟨B, 3, none⟩) (.inr hB) _).set (p := ⟨B, 4, none⟩) (.inr hB) _).set (p := ⟨B, 5, none⟩) (.inr hB) _).set (p := ⟨B, 6, none⟩) (.inr hB) _).set (p := ⟨B, 7, none⟩) (.inr hB) _).set (p := ⟨B, 8, none⟩) (.inr hB) _).set (p := ⟨B, 9, none⟩) (.inr hB) _)
/-- Cells of a row of an entry. -/
theorem row10 {W : World} {B : Nat} {x : En} (h : W.rowIs B 33 10 (cellE x)) : W.cell? ⟨B, 0, none⟩ = some (.int .i64 x.q) ∧ W.cell? ⟨B, 1, none⟩ = some (.int .i64 x.c) ∧ W.cell? ⟨B, 2, none⟩ = some (.int .i64 x.p.e) ∧ W.cell? ⟨B, 3, none⟩ = some (.int .i64 x.p.c) ∧ W.cell? ⟨B, 4, none⟩ = some (.int .i64 x.p.i) ∧ W.cell? ⟨B, 5, none⟩ = some (.int .i64 x.p.fn) ∧ W.cell? ⟨B, 6, none⟩ = some (.int .i64 x.p.fd) ∧ W.cell? ⟨B, 7, none⟩ = some (.int .i64 x.p.tn) ∧ W.cell? ⟨B, 8, none⟩ = some (.int .i64 x.p.td) ∧ W.cell? ⟨B, 9, none⟩ = some (.bool x.p.s) :=
  ⟨h.cell (i := 0) (by omega), h.cell (i := 1) (by omega), h.cell (i := 2) (by omega), h.cell (i := 3) (by omega), h.cell (i := 4) (by omega), h.cell (i := 5) (by omega), h.cell (i := 6) (by omega), h.cell (i := 7) (by omega), h.cell (i := 8) (by omega), h.cell (i := 9) (by omega)⟩
/-- What Get leaves. -/
def GetQ (w : World) (x : En) (b : Bool) (e : Ending) (w' : World) : Prop := e = .returned (.tuple #[enV x, .bool b]) ∧ Gr w w'

set_option maxRecDepth 100000 in
set_option maxHeartbeats 2000000 in
/-- Get, what is not kept. -/
theorem get_out (h : Rg w p g k m E) (hm : m ≤ 1000000) (a : Int) (ho : a < ((m - k : Nat) : Int) ∨ (m : Int) ≤ a) : Calls Try.prog 10 #[.pointer (some ⟨p, 0, none⟩), .int .i64 a] w (GetQ w en0 false) := by
  have G := (Ke.refl (fun _ => False) w).alloc zeO
  have H1 := h.gr G
  have CF := Lib.hid (first_any H1 hm)
  have CN := Lib.hid (next_any (H1.gr (Ke.refl _ _).drew))
  have r0 := (ze_row w).cell (i := 0) (by omega)
  have r1 := (ze_row w).cell (i := 1) (by omega)
  have r2 := (ze_row w).cell (i := 2) (by omega)
  have r3 := (ze_row w).cell (i := 3) (by omega)
  have r4 := (ze_row w).cell (i := 4) (by omega)
  have r5 := (ze_row w).cell (i := 5) (by omega)
  have r6 := (ze_row w).cell (i := 6) (by omega)
  have r7 := (ze_row w).cell (i := 7) (by omega)
  have r8 := (ze_row w).cell (i := 8) (by omega)
  have r9 := (ze_row w).cell (i := 9) (by omega)
  have q0 := (ze_row w).frozen 0
  have q1 := (ze_row w).frozen 1
  have q2 := (ze_row w).frozen 2
  have q3 := (ze_row w).frozen 3
  have q4 := (ze_row w).frozen 4
  have q5 := (ze_row w).frozen 5
  have q6 := (ze_row w).frozen 6
  have q7 := (ze_row w).frozen 7
  have q8 := (ze_row w).frozen 8
  have q9 := (ze_row w).frozen 9
  simp only [cellE, en0, pc0] at r0 r1 r2 r3 r4 r5 r6 r7 r8 r9
  have ZR : Hid ((((((((((((w.alloc zeO).setCell ⟨w.heap.size, 0, none⟩ (.int .i64 0)).setCell ⟨w.heap.size, 1, none⟩ (.int .i64 0)).setCell ⟨w.heap.size, 2, none⟩ (.int .i64 0)).setCell ⟨w.heap.size, 3, none⟩ (.int .i64 0)).setCell ⟨w.heap.size, 4, none⟩ (.int .i64 0)).setCell ⟨w.heap.size, 5, none⟩ (.int .i64 0)).setCell ⟨w.heap.size, 6, none⟩ (.int .i64 0)).setCell ⟨w.heap.size, 7, none⟩ (.int .i64 0)).setCell ⟨w.heap.size, 8, none⟩ (.int .i64 0)).setCell ⟨w.heap.size, 9, none⟩ (.bool false)).rowIs w.heap.size 33 10 (cellE en0)) := Lib.hid (put10 (ze_row w) en0)
  have ZG : Hid (Gr w (((((((((((w.alloc zeO).setCell ⟨w.heap.size, 0, none⟩ (.int .i64 0)).setCell ⟨w.heap.size, 1, none⟩ (.int .i64 0)).setCell ⟨w.heap.size, 2, none⟩ (.int .i64 0)).setCell ⟨w.heap.size, 3, none⟩ (.int .i64 0)).setCell ⟨w.heap.size, 4, none⟩ (.int .i64 0)).setCell ⟨w.heap.size, 5, none⟩ (.int .i64 0)).setCell ⟨w.heap.size, 6, none⟩ (.int .i64 0)).setCell ⟨w.heap.size, 7, none⟩ (.int .i64 0)).setCell ⟨w.heap.size, 8, none⟩ (.int .i64 0)).setCell ⟨w.heap.size, 9, none⟩ (.bool false))) := Lib.hid (gr10 G (Nat.le_refl _) en0)
  have HG : Hid (Gr w (w.alloc zeO)) := Lib.hid G
  have lB : w.heap.size < (w.alloc zeO).heap.size := by simp
  generalize (m - k : Nat) = f at *
  clear h H1 G
  by_cases hf : a < (f : Int)
  · have d0 : decide (a < (f : Int)) = true := decide_eq_true hf
    clear ho CN
    go_enter Try.func10, Try.ntmps10
    go_wp2_with fail
    generalize w.heap.size = B at *
    generalize w.alloc zeO = W at *
    refine CF.out.mono ?_
    rintro e w4 ⟨rfl, hw⟩
    obtain rfl := hw
    go_wp2_with fail
    generalize ((((((((((W.setCell ⟨B, 0, none⟩ (.int .i64 0)).setCell ⟨B, 1, none⟩ (.int .i64 0)).setCell ⟨B, 2, none⟩ (.int .i64 0)).setCell ⟨B, 3, none⟩ (.int .i64 0)).setCell ⟨B, 4, none⟩ (.int .i64 0)).setCell ⟨B, 5, none⟩ (.int .i64 0)).setCell ⟨B, 6, none⟩ (.int .i64 0)).setCell ⟨B, 7, none⟩ (.int .i64 0)).setCell ⟨B, 8, none⟩ (.int .i64 0)).setCell ⟨B, 9, none⟩ (.bool false)) = Z at *
    obtain ⟨y0, y1, y2, y3, y4, y5, y6, y7, y8, y9⟩ := row10 ZR.out
    simp only [en0, pc0] at y0 y1 y2 y3 y4 y5 y6 y7 y8 y9
    clear r0 r1 r2 r3 r4 r5 r6 r7 r8 r9 q0 q1 q2 q3 q4 q5 q6 q7 q8 q9
    refine bodyPost_ret (v := .tuple #[enV en0, .bool false]) ?_ rfl ?_
    · simp [results, Try.results10, go_sem, en0, pc0, *]
    · exact ⟨rfl, ZG.out.drew⟩
  · have d0 : decide (a < (f : Int)) = false := decide_eq_false hf
    have d1 : decide (a ≥ (m : Int)) = true := decide_eq_true (by omega)
    have d2 : decide ((m : Int) ≤ a) = true := decide_eq_true (by omega)
    clear ho
    go_enter Try.func10, Try.ntmps10
    go_wp2_with fail
    generalize w.heap.size = B at *
    generalize w.alloc zeO = W at *
    refine CF.out.mono ?_
    rintro e w4 ⟨rfl, hw⟩
    obtain rfl := hw
    go_wp2_with fail
    refine CN.out.mono ?_
    rintro e w4 ⟨rfl, hw⟩
    obtain rfl := hw
    go_wp2_with fail
    generalize ((((((((((W.setCell ⟨B, 0, none⟩ (.int .i64 0)).setCell ⟨B, 1, none⟩ (.int .i64 0)).setCell ⟨B, 2, none⟩ (.int .i64 0)).setCell ⟨B, 3, none⟩ (.int .i64 0)).setCell ⟨B, 4, none⟩ (.int .i64 0)).setCell ⟨B, 5, none⟩ (.int .i64 0)).setCell ⟨B, 6, none⟩ (.int .i64 0)).setCell ⟨B, 7, none⟩ (.int .i64 0)).setCell ⟨B, 8, none⟩ (.int .i64 0)).setCell ⟨B, 9, none⟩ (.bool false)) = Z at *
    obtain ⟨y0, y1, y2, y3, y4, y5, y6, y7, y8, y9⟩ := row10 ZR.out
    simp only [en0, pc0] at y0 y1 y2 y3 y4 y5 y6 y7 y8 y9
    clear r0 r1 r2 r3 r4 r5 r6 r7 r8 r9 q0 q1 q2 q3 q4 q5 q6 q7 q8 q9
    refine bodyPost_ret (v := .tuple #[enV en0, .bool false]) ?_ rfl ?_
    · simp [results, Try.results10, go_sem, en0, pc0, *]
    · exact ⟨rfl, ZG.out.drew⟩
set_option maxRecDepth 100000 in
set_option maxHeartbeats 2000000 in
/-- Get, what is kept. -/
theorem get_in (h : Rg w p g k m E) (hm : m ≤ 1000000) (s : Nat) (h1 : s < m) (h2 : m ≤ s + k) : Calls Try.prog 10 #[.pointer (some ⟨p, 0, none⟩), .int .i64 s] w (GetQ w (E s) true) := by
  have G := (Ke.refl (fun _ => False) w).alloc zeO
  have H1 := h.gr G
  have CF := Lib.hid (first_any H1 hm)
  have CN := Lib.hid (next_any (H1.gr (Ke.refl _ _).drew))
  have CP := Lib.hid (place_any (H1.gr (Ke.refl _ _).drew) (by omega) s (by omega))
  have r0 := (ze_row w).cell (i := 0) (by omega)
  have r1 := (ze_row w).cell (i := 1) (by omega)
  have r2 := (ze_row w).cell (i := 2) (by omega)
  have r3 := (ze_row w).cell (i := 3) (by omega)
  have r4 := (ze_row w).cell (i := 4) (by omega)
  have r5 := (ze_row w).cell (i := 5) (by omega)
  have r6 := (ze_row w).cell (i := 6) (by omega)
  have r7 := (ze_row w).cell (i := 7) (by omega)
  have r8 := (ze_row w).cell (i := 8) (by omega)
  have r9 := (ze_row w).cell (i := 9) (by omega)
  have q0 := (ze_row w).frozen 0
  have q1 := (ze_row w).frozen 1
  have q2 := (ze_row w).frozen 2
  have q3 := (ze_row w).frozen 3
  have q4 := (ze_row w).frozen 4
  have q5 := (ze_row w).frozen 5
  have q6 := (ze_row w).frozen 6
  have q7 := (ze_row w).frozen 7
  have q8 := (ze_row w).frozen 8
  have q9 := (ze_row w).frozen 9
  simp only [cellE, en0, pc0] at r0 r1 r2 r3 r4 r5 r6 r7 r8 r9
  have e0 := H1.cell h1 h2 (o := 0) (by omega)
  have e1 := H1.cell h1 h2 (o := 1) (by omega)
  have e2 := H1.cell h1 h2 (o := 2) (by omega)
  have e3 := H1.cell h1 h2 (o := 3) (by omega)
  have e4 := H1.cell h1 h2 (o := 4) (by omega)
  have e5 := H1.cell h1 h2 (o := 5) (by omega)
  have e6 := H1.cell h1 h2 (o := 6) (by omega)
  have e7 := H1.cell h1 h2 (o := 7) (by omega)
  have e8 := H1.cell h1 h2 (o := 8) (by omega)
  have e9 := H1.cell h1 h2 (o := 9) (by omega)
  simp only [cellE, Nat.add_zero] at e0 e1 e2 e3 e4 e5 e6 e7 e8 e9
  have lg := H1.gl
  have lB : w.heap.size < (w.alloc zeO).heap.size := by simp
  generalize s % k * 10 = r at *
  generalize E s = x at *
  have ZR : Hid ((((((((((((w.alloc zeO).setCell ⟨w.heap.size, 0, none⟩ (.int .i64 x.q)).setCell ⟨w.heap.size, 1, none⟩ (.int .i64 x.c)).setCell ⟨w.heap.size, 2, none⟩ (.int .i64 x.p.e)).setCell ⟨w.heap.size, 3, none⟩ (.int .i64 x.p.c)).setCell ⟨w.heap.size, 4, none⟩ (.int .i64 x.p.i)).setCell ⟨w.heap.size, 5, none⟩ (.int .i64 x.p.fn)).setCell ⟨w.heap.size, 6, none⟩ (.int .i64 x.p.fd)).setCell ⟨w.heap.size, 7, none⟩ (.int .i64 x.p.tn)).setCell ⟨w.heap.size, 8, none⟩ (.int .i64 x.p.td)).setCell ⟨w.heap.size, 9, none⟩ (.bool x.p.s)).rowIs w.heap.size 33 10 (cellE x)) := Lib.hid (put10 (ze_row w) x)
  have ZG : Hid (Gr w (((((((((((w.alloc zeO).setCell ⟨w.heap.size, 0, none⟩ (.int .i64 x.q)).setCell ⟨w.heap.size, 1, none⟩ (.int .i64 x.c)).setCell ⟨w.heap.size, 2, none⟩ (.int .i64 x.p.e)).setCell ⟨w.heap.size, 3, none⟩ (.int .i64 x.p.c)).setCell ⟨w.heap.size, 4, none⟩ (.int .i64 x.p.i)).setCell ⟨w.heap.size, 5, none⟩ (.int .i64 x.p.fn)).setCell ⟨w.heap.size, 6, none⟩ (.int .i64 x.p.fd)).setCell ⟨w.heap.size, 7, none⟩ (.int .i64 x.p.tn)).setCell ⟨w.heap.size, 8, none⟩ (.int .i64 x.p.td)).setCell ⟨w.heap.size, 9, none⟩ (.bool x.p.s))) := Lib.hid (gr10 G (Nat.le_refl _) x)
  have d0 : decide ((s : Int) < ((m - k : Nat) : Int)) = false := decide_eq_false (by omega)
  have d3 : decide (s < m - k) = false := decide_eq_false (by omega)
  have d1 : decide ((s : Int) ≥ (m : Int)) = false := decide_eq_false (by omega)
  have d2 : decide (m ≤ s) = false := decide_eq_false (by omega)
  generalize (m - k : Nat) = f at *
  clear h H1 G h1 h2 hm
  go_enter Try.func10, Try.ntmps10
  go_wp2_with fail
  generalize w.heap.size = B at *
  generalize w.alloc zeO = W at *
  refine CF.out.mono ?_
  rintro e w4 ⟨rfl, hw⟩
  obtain rfl := hw
  go_wp2_with fail
  refine CN.out.mono ?_
  rintro e w4 ⟨rfl, hw⟩
  obtain rfl := hw
  go_wp2_with fail
  refine CP.out.mono ?_
  rintro e w4 ⟨rfl, hw⟩
  obtain rfl := hw
  go_wp2_with fail
  generalize ((((((((((W.setCell ⟨B, 0, none⟩ (.int .i64 x.q)).setCell ⟨B, 1, none⟩ (.int .i64 x.c)).setCell ⟨B, 2, none⟩ (.int .i64 x.p.e)).setCell ⟨B, 3, none⟩ (.int .i64 x.p.c)).setCell ⟨B, 4, none⟩ (.int .i64 x.p.i)).setCell ⟨B, 5, none⟩ (.int .i64 x.p.fn)).setCell ⟨B, 6, none⟩ (.int .i64 x.p.fd)).setCell ⟨B, 7, none⟩ (.int .i64 x.p.tn)).setCell ⟨B, 8, none⟩ (.int .i64 x.p.td)).setCell ⟨B, 9, none⟩ (.bool x.p.s)) = Z at *
  obtain ⟨y0, y1, y2, y3, y4, y5, y6, y7, y8, y9⟩ := row10 ZR.out
  clear r0 r1 r2 r3 r4 r5 r6 r7 r8 r9 q0 q1 q2 q3 q4 q5 q6 q7 q8 q9 e0 e1 e2 e3 e4 e5 e6 e7 e8 e9
  refine bodyPost_ret (v := .tuple #[enV x, .bool true]) ?_ rfl ?_
  · simp [results, Try.results10, go_sem, *]
  · exact ⟨rfl, ZG.out.drew.drew⟩
end
end Go.Proofs.Ytgnfmmoanmhgpaa
