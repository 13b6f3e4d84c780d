/- The heap in memory; contracts of ahead, set. -/
import Derived.Test.YtkapejgokcpbiaaB6
import Derived.Laws.OwnMore
namespace Go.Proofs.Ytkapejgokcpbiaa
open Go.RowKit Go.Lib
set_option linter.unusedVariables false

/-- An entry as the program has it. -/
abbrev VE (e : En) : Value := .agg #[.int .i64 e.s, .int .i64 e.r.d, .int .i64 e.r.b, .int .i64 e.r.g, .int .i64 e.r.i]

set_option maxHeartbeats 1000000 in
theorem ahead_any (p : Nat) (k : Int) (x y : En) (w : World) (c0 : w.cell? ⟨p, 0, none⟩ = some (.int .i64 k)) : Calls Try.prog 49 #[.pointer (some ⟨p, 0, none⟩), VE x, VE y] w fun e w' => e = .returned (.bool (ahead k x y)) ∧ Gr w w' := by
  have hp := lt_of_cell c0
  simp only at hp
  have hv : ahead k x y = if ltK k x.r y.r then true else if ltK k y.r x.r then false else decide ((x.s : Int) < (y.s : Int)) := by
    unfold ahead
    cases ltK k x.r y.r <;> cases ltK k y.r x.r <;> simp
  have C1 := Lib.hid (fun W c => hless_any p k x.r y.r W c)
  have C2 := Lib.hid (fun W c => hless_any p k y.r x.r W c)
  obtain ⟨l1, h1⟩ : ∃ l, ltK k x.r y.r = l := ⟨_, rfl⟩
  obtain ⟨l2, h2⟩ : ∃ l, ltK k y.r x.r = l := ⟨_, rfl⟩
  rw [h1, h2] at hv
  rw [h1] at C1
  rw [h2] at C2
  rw [hv]
  clear hv h1 h2
  obtain ⟨xs, xd, xb, xg, xi⟩ := x
  obtain ⟨ys, yd, yb, yg, yi⟩ := y
  simp only at C1 C2 ⊢
  obtain ⟨A, hA⟩ : ∃ A, A = ((w.alloc (.cells #[.int .i64 xs, .int .i64 xd, .int .i64 xb, .int .i64 xg, .int .i64 xi] 85)).alloc (.cells #[.int .i64 ys, .int .i64 yd, .int .i64 yb, .int .i64 yg, .int .i64 yi] 85)) := ⟨_, rfl⟩
  have gA : Gr w A := by rw [hA]; exact ((Ke.refl _ _).alloc _).alloc _
  have e0 : A.cell? ⟨p, 0, none⟩ = some (.int .i64 k) := gcell gA c0
  have a0 : A.cell? ⟨w.heap.size, 0, none⟩ = some (.int .i64 xs) := by rw [hA]; simp [go_sem]
  have a1 : A.cell? ⟨w.heap.size, 1, none⟩ = some (.int .i64 xd) := by rw [hA]; simp [go_sem]
  have a2 : A.cell? ⟨w.heap.size, 2, none⟩ = some (.int .i64 xb) := by rw [hA]; simp [go_sem]
  have a3 : A.cell? ⟨w.heap.size, 3, none⟩ = some (.int .i64 xg) := by rw [hA]; simp [go_sem]
  have a4 : A.cell? ⟨w.heap.size, 4, none⟩ = some (.int .i64 xi) := by rw [hA]; simp [go_sem]
  have b0 : A.cell? ⟨w.heap.size + 1, 0, none⟩ = some (.int .i64 ys) := by rw [hA]; simp [go_sem]
  have b1 : A.cell? ⟨w.heap.size + 1, 1, none⟩ = some (.int .i64 yd) := by rw [hA]; simp [go_sem]
  have b2 : A.cell? ⟨w.heap.size + 1, 2, none⟩ = some (.int .i64 yb) := by rw [hA]; simp [go_sem]
  have b3 : A.cell? ⟨w.heap.size + 1, 3, none⟩ = some (.int .i64 yg) := by rw [hA]; simp [go_sem]
  have b4 : A.cell? ⟨w.heap.size + 1, 4, none⟩ = some (.int .i64 yi) := by rw [hA]; simp [go_sem]
  have G0 := Lib.hid gA
  have X := Lib.hid (And.intro e0 (And.intro a0 (And.intro a1 (And.intro a2 (And.intro a3 (And.intro a4 (And.intro b0 (And.intro b1 (And.intro b2 (And.intro b3 b4))))))))))
  have HA := Lib.hid hA
  clear gA e0 a0 a1 a2 a3 a4 b0 b1 b2 b3 b4 hA
  go_enter Try.func49, Try.ntmps49
  go_wp2_with fail
  rw [← HA.out]
  obtain ⟨e0, a0, a1, a2, a3, a4, b0, b1, b2, b3, b4⟩ := X.out
  refine (C1.out A e0).mono ?_
  rintro e w1 ⟨rfl, g1⟩
  have q0 := gcell g1 e0
  have q1 := gcell g1 a0
  have q2 := gcell g1 a1
  have q3 := gcell g1 a2
  have q4 := gcell g1 a3
  have q5 := gcell g1 a4
  have q6 := gcell g1 b0
  have q7 := gcell g1 b1
  have q8 := gcell g1 b2
  have q9 := gcell g1 b3
  have q10 := gcell g1 b4
  have G1 := Lib.hid (G0.out.trans g1)
  clear e0 a0 a1 a2 a3 a4 b0 b1 b2 b3 b4 g1 X HA
  cases l1
  case true =>
    go_wp2
    go_ret
    exact ⟨rfl, G1.out⟩
  case false =>
    go_wp2_with fail
    refine (C2.out _ q0).mono ?_
    rintro e w2 ⟨rfl, g2⟩
    have r1 := gcell g2 q1
    have r6 := gcell g2 q6
    have G2 := Lib.hid (G1.out.trans g2)
    clear q0 q1 q2 q3 q4 q5 q6 q7 q8 q9 q10 g2
    cases l2
    case true =>
      go_wp2
      go_ret
      exact ⟨rfl, G2.out⟩
    case false =>
      go_wp2
      go_ret
      exact ⟨by simp, G2.out⟩

end Go.Proofs.Ytkapejgokcpbiaa
