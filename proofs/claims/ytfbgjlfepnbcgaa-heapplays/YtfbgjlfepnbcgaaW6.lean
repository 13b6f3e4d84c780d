/- The law's own order (less). -/
import Derived.Test.YtfbgjlfepnbcgaaO6
namespace Go.Proofs.Ytfbgjlfepnbcgaa
open Go.RowKit Go.Lib
set_option linter.unusedVariables false

/-- A deed as the program has it. -/
abbrev VD (o s : Int) (r : Rk) : Value := .agg #[.int .i64 o, .int .i64 s, .int .i64 r.d, .int .i64 r.b, .int .i64 r.g, .int .i64 r.i]

theorem ahead_int (k : Int) (x y : En) : ahead k x y = if ltK k x.r y.r then true else if ltK k y.r x.r then false else decide ((x.s : Int) < (y.s : Int)) := by
  unfold ahead
  cases ltK k x.r y.r <;> cases ltK k y.r x.r <;> simp

set_option maxHeartbeats 2000000 in
theorem dless_time (o o' : Int) (x y : En) (w : World) : Calls Try.prog 10 #[.int .i64 2, VD o x.s x.r, VD o' y.s y.r] w fun e w' => e = .returned (.bool (ahead 2 x y)) ∧ Gr w w' := by
  obtain ⟨xs, xd, xb, xg, xi⟩ := x
  obtain ⟨ys, yd, yb, yg, yi⟩ := y
  have HV := Lib.hid (ahead_int 2 ⟨xs, xd, xb, xg, xi⟩ ⟨ys, yd, yb, yg, yi⟩)
  by_cases h1 : xd = yd
  · subst h1
    have q1 : (xd != xd) = false := by simp
    by_cases h2 : xi = yi
    · subst h2
      have q2 : (xi != xi) = false := by simp
      go_enter Try.func10, Try.ntmps10
      go_wp2
      go_ret
      exact ⟨ret_bool' (by rw [HV.out]; simp [ltK]), ((Ke.refl _ _).alloc _).alloc _⟩
    · have q2 : (xi != yi) = true := by simp [h2]
      have H2 := Lib.hid h2
      clear h2
      go_enter Try.func10, Try.ntmps10
      go_wp2
      go_ret
      refine ⟨ret_bool' ?_, ((Ke.refl _ _).alloc _).alloc _⟩
      rw [HV.out]
      have h2 := H2.out
      by_cases h3 : xi < yi
      · simp [ltK, h3]
      · have : yi < xi := by omega
        simp [ltK, h3, this]
  · have q1 : (xd != yd) = true := by simp [h1]
    have H1 := Lib.hid h1
    clear h1
    go_enter Try.func10, Try.ntmps10
    go_wp2
    go_ret
    refine ⟨ret_bool' ?_, ((Ke.refl _ _).alloc _).alloc _⟩
    rw [HV.out]
    have h1 := H1.out
    by_cases h3 : xd < yd
    · simp [ltK, h3]
    · have : yd < xd := by omega
      have e1 : ¬ yd = xd := by omega
      simp [ltK, h3, this, h1]

/-- The six cells of a deed in a box. -/
structure BoxD (w : World) (B : Nat) (o s : Int) (r : Rk) : Prop where
  b0 : w.cell? ⟨B, 0, none⟩ = some (.int .i64 o)
  b1 : w.cell? ⟨B, 1, none⟩ = some (.int .i64 s)
  b2 : w.cell? ⟨B, 2, none⟩ = some (.int .i64 r.d)
  b3 : w.cell? ⟨B, 3, none⟩ = some (.int .i64 r.b)
  b4 : w.cell? ⟨B, 4, none⟩ = some (.int .i64 r.g)
  b5 : w.cell? ⟨B, 5, none⟩ = some (.int .i64 r.i)
theorem BoxD.ke {F : Nat → Prop} {w w' : World} {B : Nat} {o s : Int} {r : Rk} (h : BoxD w B o s r) (k : Ke F w w') (hn : ¬ F B) : BoxD w' B o s r := by
  have q := k.block B (lt_of_cell h.b0) hn
  exact ⟨(World.cell?_of_block q).trans h.b0, (World.cell?_of_block q).trans h.b1, (World.cell?_of_block q).trans h.b2, (World.cell?_of_block q).trans h.b3, (World.cell?_of_block q).trans h.b4, (World.cell?_of_block q).trans h.b5⟩

set_option maxHeartbeats 2000000 in
theorem dless_rank (k : Int) (hk : k ≠ 2) (o o' : Int) (x y : En) (w : World) : Calls Try.prog 10 #[.int .i64 k, VD o x.s x.r, VD o' y.s y.r] w fun e w' => e = .returned (.bool (ahead k x y)) ∧ Gr w w' := by
  have HV := Lib.hid (ahead_int k x y)
  have C1 := Lib.hid (rless_any x.r y.r)
  have C2 := Lib.hid (rless_any y.r x.r)
  have e1 : ltK k x.r y.r = lessB x.r y.r := by simp [ltK, hk]
  have e2 : ltK k y.r x.r = lessB y.r x.r := by simp [ltK, hk]
  rw [e1, e2] at HV
  have as_ : Hid (lessB x.r y.r = true → lessB y.r x.r = true → False) := fun h1 h2 => by
    rw [less_iff] at h1 h2; omega
  have kq : (k == 2) = false := by simp [hk]
  clear e1 e2 hk
  obtain ⟨l1, h1⟩ : ∃ l, lessB x.r y.r = l := ⟨_, rfl⟩
  obtain ⟨l2, h2⟩ : ∃ l, lessB y.r x.r = l := ⟨_, rfl⟩
  rw [h1] at C1 HV as_
  rw [h2] at C2 HV as_
  clear h1 h2
  obtain ⟨xs, xd, xb, xg, xi⟩ := x
  obtain ⟨ys, yd, yb, yg, yi⟩ := y
  simp only at C1 C2 HV ⊢
  obtain ⟨A, hA⟩ : ∃ A, A = ((w.alloc (.cells #[.int .i64 o, .int .i64 xs, .int .i64 xd, .int .i64 xb, .int .i64 xg, .int .i64 xi] 29)).alloc (.cells #[.int .i64 o', .int .i64 ys, .int .i64 yd, .int .i64 yb, .int .i64 yg, .int .i64 yi] 29)) := ⟨_, rfl⟩
  have gA : Gr w A := by rw [hA]; exact ((Ke.refl _ _).alloc _).alloc _
  have X : BoxD A w.heap.size o xs ⟨xd, xb, xg, xi⟩ := by rw [hA]; exact ⟨by simp [go_sem], by simp [go_sem], by simp [go_sem], by simp [go_sem], by simp [go_sem], by simp [go_sem]⟩
  have Y : BoxD A (w.heap.size + 1) o' ys ⟨yd, yb, yg, yi⟩ := by rw [hA]; exact ⟨by simp [go_sem], by simp [go_sem], by simp [go_sem], by simp [go_sem], by simp [go_sem], by simp [go_sem]⟩
  have HA := Lib.hid hA
  have GA := Lib.hid gA
  have HX := Lib.hid X
  have HY := Lib.hid Y
  clear hA gA X Y
  go_enter Try.func10, Try.ntmps10
  go_wp2_with fail
  rw [← HA.out]
  refine (C1.out A).mono ?_
  rintro e w1 ⟨rfl, g1⟩
  have X1 := HX.out.ke g1 (fun q => q)
  have Y1 := HY.out.ke g1 (fun q => q)
  have G1 := Lib.hid (GA.out.trans g1)
  clear HX HY GA HA g1
  have HX := Lib.hid X1
  have HY := Lib.hid Y1
  obtain ⟨p0, p1, p2, p3, p4, p5⟩ := X1
  obtain ⟨q0, q1, q2, q3, q4, q5⟩ := Y1
  simp only at p0 p1 p2 p3 p4 p5 q0 q1 q2 q3 q4 q5
  cases l1
  case true =>
    go_wp2_with fail
    refine (C1.out _).mono ?_
    rintro e w2 ⟨rfl, g2⟩
    have G2 := Lib.hid (G1.out.trans g2)
    clear g2 p0 p1 p2 p3 p4 p5 q0 q1 q2 q3 q4 q5
    go_wp2
    go_ret
    exact ⟨ret_bool' (by rw [HV.out]; simp), G2.out⟩
  case false =>
    go_wp2_with fail
    refine (C2.out _).mono ?_
    rintro e w2 ⟨rfl, g2⟩
    have X2 := HX.out.ke g2 (fun q => q)
    have Y2 := HY.out.ke g2 (fun q => q)
    have G2 := Lib.hid (G1.out.trans g2)
    clear g2 p0 p1 p2 p3 p4 p5 q0 q1 q2 q3 q4 q5 HX HY
    obtain ⟨p0, p1, p2, p3, p4, p5⟩ := X2
    obtain ⟨q0, q1, q2, q3, q4, q5⟩ := Y2
    simp only at p0 p1 p2 p3 p4 p5 q0 q1 q2 q3 q4 q5
    cases l2
    case true =>
      go_wp2_with fail
      refine (C1.out _).mono ?_
      rintro e w3 ⟨rfl, g3⟩
      have G3 := Lib.hid (G2.out.trans g3)
      clear g3 p0 p1 p2 p3 p4 p5 q0 q1 q2 q3 q4 q5
      go_wp2
      go_ret
      exact ⟨ret_bool' (by rw [HV.out]; simp), G3.out⟩
    case false =>
      go_wp2
      go_ret
      exact ⟨ret_bool' (by rw [HV.out]; simp), G2.out⟩

theorem dless_any (k : Int) (o o' : Int) (x y : En) (w : World) : Calls Try.prog 10 #[.int .i64 k, VD o x.s x.r, VD o' y.s y.r] w fun e w' => e = .returned (.bool (ahead k x y)) ∧ Gr w w' := by
  by_cases hk : k = 2
  · subst hk; exact dless_time o o' x y w
  · exact dless_rank k hk o o' x y w
end Go.Proofs.Ytfbgjlfepnbcgaa
