/- Contract of Put. -/
import Derived.Test.YtgnfmmoanmhgpaaA2
namespace Go.Proofs.Ytgnfmmoanmhgpaa
open Go.RowKit Go.Lib
set_option linter.unusedVariables false

section
variable {w : World} {p g k m : Nat} {E : Nat → En}
/-- A piece in a box of its own. -/
abbrev pcO (x : Pc) : Obj := .cells #[.int .i64 x.e, .int .i64 x.c, .int .i64 x.i, .int .i64 x.fn, .int .i64 x.fd, .int .i64 x.tn, .int .i64 x.td, .bool x.s] 30
theorem pc_row (x : Pc) (w : World) : (w.alloc (pcO x)).rowIs w.heap.size 30 8 (fun o => cellE ⟨0, 0, x⟩ (o + 2)) := World.rowIs_alloc w _ 30 (fun o => cellE ⟨0, 0, x⟩ (o + 2)) (fun i hi => by
  simp only [List.size_toArray, List.length_cons, List.length_nil] at hi
  rcases (show i = 0 ∨ i = 1 ∨ i = 2 ∨ i = 3 ∨ i = 4 ∨ i = 5 ∨ i = 6 ∨ i = 7 by omega) with rfl | rfl | rfl | rfl | rfl | rfl | rfl | rfl <;> rfl)

set_option maxRecDepth 100000 in
/-- Put into a ring without places. -/
theorem put_none (h : Rg w p g 0 m E) (hm : m < 1000000) (c : Int) (x : Pc) : Calls Try.prog 8 #[.pointer (some ⟨p, 0, none⟩), .int .i64 c, pcV x] w fun e w' => e = .returned (.int .i64 m) ∧ Ke (Ft p g) w w' ∧ Rg w' p g 0 (m + 1) E := by
  have G := (Ke.refl (fun _ => False) w).alloc (pcO x)
  have H1 := h.gr G
  have CL := Lib.hid (iload_any H1.c1)
  have CS := Lib.hid (istore_any (x := (m : Int) + 1) H1.c1 (H1.fz 1))
  have FIN : Hid (Ke (Ft p g) w ((w.alloc (pcO x)).setCell ⟨p, 1, none⟩ (.int .i64 ((m : Int) + 1))) ∧ Rg ((w.alloc (pcO x)).setCell ⟨p, 1, none⟩ (.int .i64 ((m : Int) + 1))) p g 0 (m + 1) E) := Lib.hid ⟨((Ke.refl (Ft p g) w).alloc (pcO x)).set (.inl (.inl rfl)) _, H1.next0 (by omega)⟩
  have c0 := H1.c0
  have lp := H1.pl
  have wm : wrap64 ((m : Int) + 1) = (m : Int) + 1 := by unfold wrap64; omega
  obtain ⟨xe, xc, xi, xfn, xfd, xtn, xtd, xs⟩ := x
  clear h H1 G hm
  go_enter Try.func8, Try.ntmps8
  go_wp2_with fail
  generalize (w.alloc (pcO ⟨xe, xc, xi, xfn, xfd, xtn, xtd, xs⟩)) = w1 at *
  refine CL.out.mono ?_
  rintro e w4 ⟨rfl, hw⟩
  obtain rfl := hw.symm
  clear hw
  go_wp2_with fail
  refine CS.out.mono ?_
  rintro e w4 ⟨rfl, hw⟩
  obtain rfl := hw.symm
  clear hw
  go_wp2
  go_ret
  exact ⟨rfl, FIN.out⟩

theorem held8 {W X : World} {B : Nat} {xe xc xi xfn xfd xtn xtd : Int} {xs : Bool} (eX : X.heap[B]? = W.heap[B]?) (h : W.cell? ⟨B, 0, none⟩ = some (.int .i64 xe) ∧ W.cell? ⟨B, 1, none⟩ = some (.int .i64 xc) ∧ W.cell? ⟨B, 2, none⟩ = some (.int .i64 xi) ∧ W.cell? ⟨B, 3, none⟩ = some (.int .i64 xfn) ∧ W.cell? ⟨B, 4, none⟩ = some (.int .i64 xfd) ∧ W.cell? ⟨B, 5, none⟩ = some (.int .i64 xtn) ∧ W.cell? ⟨B, 6, none⟩ = some (.int .i64 xtd) ∧ W.cell? ⟨B, 7, none⟩ = some (.bool xs)) : X.drew.drew.cell? ⟨B, 0, none⟩ = some (.int .i64 xe) ∧ X.drew.drew.cell? ⟨B, 1, none⟩ = some (.int .i64 xc) ∧ X.drew.drew.cell? ⟨B, 2, none⟩ = some (.int .i64 xi) ∧ X.drew.drew.cell? ⟨B, 3, none⟩ = some (.int .i64 xfn) ∧ X.drew.drew.cell? ⟨B, 4, none⟩ = some (.int .i64 xfd) ∧ X.drew.drew.cell? ⟨B, 5, none⟩ = some (.int .i64 xtn) ∧ X.drew.drew.cell? ⟨B, 6, none⟩ = some (.int .i64 xtd) ∧ X.drew.drew.cell? ⟨B, 7, none⟩ = some (.bool xs) := by
  obtain ⟨b0, b1, b2, b3, b4, b5, b6, b7⟩ := h
  exact ⟨(World.cell?_of_block (a := ⟨B, 0, none⟩) (w := W) (w' := X) eX).trans b0, (World.cell?_of_block (a := ⟨B, 1, none⟩) (w := W) (w' := X) eX).trans b1, (World.cell?_of_block (a := ⟨B, 2, none⟩) (w := W) (w' := X) eX).trans b2, (World.cell?_of_block (a := ⟨B, 3, none⟩) (w := W) (w' := X) eX).trans b3, (World.cell?_of_block (a := ⟨B, 4, none⟩) (w := W) (w' := X) eX).trans b4, (World.cell?_of_block (a := ⟨B, 5, none⟩) (w := W) (w' := X) eX).trans b5, (World.cell?_of_block (a := ⟨B, 6, none⟩) (w := W) (w' := X) eX).trans b6, (World.cell?_of_block (a := ⟨B, 7, none⟩) (w := W) (w' := X) eX).trans b7⟩
theorem blk10 (W : World) {g B : Nat} (h : ¬ g = B) (o0 o1 o2 o3 o4 o5 o6 o7 o8 o9 : Nat) (u0 u1 u2 u3 u4 u5 u6 u7 u8 u9 : Value) : ((((((((((W.setCell ⟨g, o0, none⟩ u0).setCell ⟨g, o1, none⟩ u1).setCell ⟨g, o2, none⟩ u2).setCell ⟨g, o3, none⟩ u3).setCell ⟨g, o4, none⟩ u4).setCell ⟨g, o5, none⟩ u5).setCell ⟨g, o6, none⟩ u6).setCell ⟨g, o7, none⟩ u7).setCell ⟨g, o8, none⟩ u8).setCell ⟨g, o9, none⟩ u9).heap[B]? = W.heap[B]? := by
  have e : B ≠ g := fun q => h q.symm
  rw [Below.heap_setCell _ _ _ _ e, Below.heap_setCell _ _ _ _ e, Below.heap_setCell _ _ _ _ e, Below.heap_setCell _ _ _ _ e, Below.heap_setCell _ _ _ _ e, Below.heap_setCell _ _ _ _ e, Below.heap_setCell _ _ _ _ e, Below.heap_setCell _ _ _ _ e, Below.heap_setCell _ _ _ _ e, Below.heap_setCell _ _ _ _ e]

set_option maxRecDepth 100000 in
set_option maxHeartbeats 2000000 in
/-- Put. -/
theorem put_some (h : Rg w p g k m E) (hk : 0 < k) (hm : m < 1000000) (c : Int) (x : Pc) (hE : E m = ⟨m, c, x⟩) : Calls Try.prog 8 #[.pointer (some ⟨p, 0, none⟩), .int .i64 c, pcV x] w fun e w' => e = .returned (.int .i64 m) ∧ Ke (Ft p g) w w' ∧ Rg w' p g k (m + 1) E := by
  have G := (Ke.refl (fun _ => False) w).alloc (pcO x)
  have H1 := Lib.hid (h.gr G)
  have G1 : Hid (Gr w (w.alloc (pcO x))) := Lib.hid G
  have CL := Lib.hid (iload_any H1.out.c1)
  have CP := Lib.hid (place_any (H1.out.gr ((Ke.refl _ _).drew)) hk m (by omega))
  have c0 := H1.out.c0
  have lp := H1.out.pl
  have lg := H1.out.gl
  have ne := h.ne
  have wm : wrap64 ((m : Int) + 1) = (m : Int) + 1 := by unfold wrap64; omega
  have dk : decide ((0 : Int) < (k : Int)) = true := by simp; omega
  have dk2 : decide ((k : Int) > (0 : Int)) = true := by simp; omega
  have dk3 : decide (0 < k) = true := by simp; omega
  have R := pc_row x w
  have HP := Lib.hid (H1.out.put hk rfl)
  rw [hE] at HP
  have rs := fun o (ho : o < 10) => H1.out.some m hk (o := o) ho
  obtain ⟨v0, k0⟩ := rs 0 (by omega)
  obtain ⟨v1, k1⟩ := rs 1 (by omega)
  obtain ⟨v2, k2⟩ := rs 2 (by omega)
  obtain ⟨v3, k3⟩ := rs 3 (by omega)
  obtain ⟨v4, k4⟩ := rs 4 (by omega)
  obtain ⟨v5, k5⟩ := rs 5 (by omega)
  obtain ⟨v6, k6⟩ := rs 6 (by omega)
  obtain ⟨v7, k7⟩ := rs 7 (by omega)
  obtain ⟨v8, k8⟩ := rs 8 (by omega)
  obtain ⟨v9, k9⟩ := rs 9 (by omega)
  have z0 := H1.out.frozen (m % k * 10)
  have z1 := H1.out.frozen (m % k * 10 + 1)
  have z2 := H1.out.frozen (m % k * 10 + 2)
  have z3 := H1.out.frozen (m % k * 10 + 3)
  have z4 := H1.out.frozen (m % k * 10 + 4)
  have z5 := H1.out.frozen (m % k * 10 + 5)
  have z6 := H1.out.frozen (m % k * 10 + 6)
  have z7 := H1.out.frozen (m % k * 10 + 7)
  have z8 := H1.out.frozen (m % k * 10 + 8)
  have z9 := H1.out.frozen (m % k * 10 + 9)
  have b0 := R.cell (i := 0) (by omega)
  have b1 := R.cell (i := 1) (by omega)
  have b2 := R.cell (i := 2) (by omega)
  have b3 := R.cell (i := 3) (by omega)
  have b4 := R.cell (i := 4) (by omega)
  have b5 := R.cell (i := 5) (by omega)
  have b6 := R.cell (i := 6) (by omega)
  have b7 := R.cell (i := 7) (by omega)
  simp only [cellE, Nat.add_zero] at b0 b1 b2 b3 b4 b5 b6 b7 HP k0
  have gne : ¬ g = w.heap.size := by have := h.gl; omega
  obtain ⟨xe, xc, xi, xfn, xfd, xtn, xtd, xs⟩ := x
  simp only at b0 b1 b2 b3 b4 b5 b6 b7 HP
  clear h G rs R hE
  go_enter Try.func8, Try.ntmps8
  go_wp2_with fail
  generalize (w.alloc (pcO ⟨xe, xc, xi, xfn, xfd, xtn, xtd, xs⟩)) = W at *
  generalize w.heap.size = B at *
  generalize m % k * 10 = r at *
  refine CL.out.mono ?_
  rintro e w4 ⟨rfl, hw⟩
  obtain rfl := hw.symm
  clear hw CL
  go_upto_region 5 with fail
  have s0 : W.cell? ⟨B, 0, none⟩ = some (.int .i64 xe) ∧ W.cell? ⟨B, 1, none⟩ = some (.int .i64 xc) ∧ W.cell? ⟨B, 2, none⟩ = some (.int .i64 xi) ∧ W.cell? ⟨B, 3, none⟩ = some (.int .i64 xfn) ∧ W.cell? ⟨B, 4, none⟩ = some (.int .i64 xfd) ∧ W.cell? ⟨B, 5, none⟩ = some (.int .i64 xtn) ∧ W.cell? ⟨B, 6, none⟩ = some (.int .i64 xtd) ∧ W.cell? ⟨B, 7, none⟩ = some (.bool xs) := ⟨b0, b1, b2, b3, b4, b5, b6, b7⟩
  have s1 : W.drew.cell? ⟨B, 0, none⟩ = some (.int .i64 xe) ∧ W.drew.cell? ⟨B, 1, none⟩ = some (.int .i64 xc) ∧ W.drew.cell? ⟨B, 2, none⟩ = some (.int .i64 xi) ∧ W.drew.cell? ⟨B, 3, none⟩ = some (.int .i64 xfn) ∧ W.drew.cell? ⟨B, 4, none⟩ = some (.int .i64 xfd) ∧ W.drew.cell? ⟨B, 5, none⟩ = some (.int .i64 xtn) ∧ W.drew.cell? ⟨B, 6, none⟩ = some (.int .i64 xtd) ∧ W.drew.cell? ⟨B, 7, none⟩ = some (.bool xs) := ⟨b0, b1, b2, b3, b4, b5, b6, b7⟩
  have s2 : W.drew.drew.cell? ⟨B, 0, none⟩ = some (.int .i64 xe) ∧ W.drew.drew.cell? ⟨B, 1, none⟩ = some (.int .i64 xc) ∧ W.drew.drew.cell? ⟨B, 2, none⟩ = some (.int .i64 xi) ∧ W.drew.drew.cell? ⟨B, 3, none⟩ = some (.int .i64 xfn) ∧ W.drew.drew.cell? ⟨B, 4, none⟩ = some (.int .i64 xfd) ∧ W.drew.drew.cell? ⟨B, 5, none⟩ = some (.int .i64 xtn) ∧ W.drew.drew.cell? ⟨B, 6, none⟩ = some (.int .i64 xtd) ∧ W.drew.drew.cell? ⟨B, 7, none⟩ = some (.bool xs) := ⟨b0, b1, b2, b3, b4, b5, b6, b7⟩
  have s3 : ((((((((((W.setCell ⟨g, r, none⟩ (.int .i64 (m : Int))).setCell ⟨g, r + 1, none⟩ (.int .i64 c)).setCell ⟨g, r + 2, none⟩ (.int .i64 xe)).setCell ⟨g, r + 3, none⟩ (.int .i64 xc)).setCell ⟨g, r + 4, none⟩ (.int .i64 xi)).setCell ⟨g, r + 5, none⟩ (.int .i64 xfn)).setCell ⟨g, r + 6, none⟩ (.int .i64 xfd)).setCell ⟨g, r + 7, none⟩ (.int .i64 xtn)).setCell ⟨g, r + 8, none⟩ (.int .i64 xtd)).setCell ⟨g, r + 9, none⟩ (.bool xs)).drew.drew.cell? ⟨B, 0, none⟩ = some (.int .i64 xe) ∧ ((((((((((W.setCell ⟨g, r, none⟩ (.int .i64 (m : Int))).setCell ⟨g, r + 1, none⟩ (.int .i64 c)).setCell ⟨g, r + 2, none⟩ (.int .i64 xe)).setCell ⟨g, r + 3, none⟩ (.int .i64 xc)).setCell ⟨g, r + 4, none⟩ (.int .i64 xi)).setCell ⟨g, r + 5, none⟩ (.int .i64 xfn)).setCell ⟨g, r + 6, none⟩ (.int .i64 xfd)).setCell ⟨g, r + 7, none⟩ (.int .i64 xtn)).setCell ⟨g, r + 8, none⟩ (.int .i64 xtd)).setCell ⟨g, r + 9, none⟩ (.bool xs)).drew.drew.cell? ⟨B, 1, none⟩ = some (.int .i64 xc) ∧ ((((((((((W.setCell ⟨g, r, none⟩ (.int .i64 (m : Int))).setCell ⟨g, r + 1, none⟩ (.int .i64 c)).setCell ⟨g, r + 2, none⟩ (.int .i64 xe)).setCell ⟨g, r + 3, none⟩ (.int .i64 xc)).setCell ⟨g, r + 4, none⟩ (.int .i64 xi)).setCell ⟨g, r + 5, none⟩ (.int .i64 xfn)).setCell ⟨g, r + 6, none⟩ (.int .i64 xfd)).setCell ⟨g, r + 7, none⟩ (.int .i64 xtn)).setCell ⟨g, r + 8, none⟩ (.int .i64 xtd)).setCell ⟨g, r + 9, none⟩ (.bool xs)).drew.drew.cell? ⟨B, 2, none⟩ = some (.int .i64 xi) ∧ ((((((((((W.setCell ⟨g, r, none⟩ (.int .i64 (m : Int))).setCell ⟨g, r + 1, none⟩ (.int .i64 c)).setCell ⟨g, r + 2, none⟩ (.int .i64 xe)).setCell ⟨g, r + 3, none⟩ (.int .i64 xc)).setCell ⟨g, r + 4, none⟩ (.int .i64 xi)).setCell ⟨g, r + 5, none⟩ (.int .i64 xfn)).setCell ⟨g, r + 6, none⟩ (.int .i64 xfd)).setCell ⟨g, r + 7, none⟩ (.int .i64 xtn)).setCell ⟨g, r + 8, none⟩ (.int .i64 xtd)).setCell ⟨g, r + 9, none⟩ (.bool xs)).drew.drew.cell? ⟨B, 3, none⟩ = some (.int .i64 xfn) ∧ ((((((((((W.setCell ⟨g, r, none⟩ (.int .i64 (m : Int))).setCell ⟨g, r + 1, none⟩ (.int .i64 c)).setCell ⟨g, r + 2, none⟩ (.int .i64 xe)).setCell ⟨g, r + 3, none⟩ (.int .i64 xc)).setCell ⟨g, r + 4, none⟩ (.int .i64 xi)).setCell ⟨g, r + 5, none⟩ (.int .i64 xfn)).setCell ⟨g, r + 6, none⟩ (.int .i64 xfd)).setCell ⟨g, r + 7, none⟩ (.int .i64 xtn)).setCell ⟨g, r + 8, none⟩ (.int .i64 xtd)).setCell ⟨g, r + 9, none⟩ (.bool xs)).drew.drew.cell? ⟨B, 4, none⟩ = some (.int .i64 xfd) ∧ ((((((((((W.setCell ⟨g, r, none⟩ (.int .i64 (m : Int))).setCell ⟨g, r + 1, none⟩ (.int .i64 c)).setCell ⟨g, r + 2, none⟩ (.int .i64 xe)).setCell ⟨g, r + 3, none⟩ (.int .i64 xc)).setCell ⟨g, r + 4, none⟩ (.int .i64 xi)).setCell ⟨g, r + 5, none⟩ (.int .i64 xfn)).setCell ⟨g, r + 6, none⟩ (.int .i64 xfd)).setCell ⟨g, r + 7, none⟩ (.int .i64 xtn)).setCell ⟨g, r + 8, none⟩ (.int .i64 xtd)).setCell ⟨g, r + 9, none⟩ (.bool xs)).drew.drew.cell? ⟨B, 5, none⟩ = some (.int .i64 xtn) ∧ ((((((((((W.setCell ⟨g, r, none⟩ (.int .i64 (m : Int))).setCell ⟨g, r + 1, none⟩ (.int .i64 c)).setCell ⟨g, r + 2, none⟩ (.int .i64 xe)).setCell ⟨g, r + 3, none⟩ (.int .i64 xc)).setCell ⟨g, r + 4, none⟩ (.int .i64 xi)).setCell ⟨g, r + 5, none⟩ (.int .i64 xfn)).setCell ⟨g, r + 6, none⟩ (.int .i64 xfd)).setCell ⟨g, r + 7, none⟩ (.int .i64 xtn)).setCell ⟨g, r + 8, none⟩ (.int .i64 xtd)).setCell ⟨g, r + 9, none⟩ (.bool xs)).drew.drew.cell? ⟨B, 6, none⟩ = some (.int .i64 xtd) ∧ ((((((((((W.setCell ⟨g, r, none⟩ (.int .i64 (m : Int))).setCell ⟨g, r + 1, none⟩ (.int .i64 c)).setCell ⟨g, r + 2, none⟩ (.int .i64 xe)).setCell ⟨g, r + 3, none⟩ (.int .i64 xc)).setCell ⟨g, r + 4, none⟩ (.int .i64 xi)).setCell ⟨g, r + 5, none⟩ (.int .i64 xfn)).setCell ⟨g, r + 6, none⟩ (.int .i64 xfd)).setCell ⟨g, r + 7, none⟩ (.int .i64 xtn)).setCell ⟨g, r + 8, none⟩ (.int .i64 xtd)).setCell ⟨g, r + 9, none⟩ (.bool xs)).drew.drew.cell? ⟨B, 7, none⟩ = some (.bool xs) := held8 (blk10 W gne _ _ _ _ _ _ _ _ _ _ _ _ _ _ _ _ _ _ _ _) s0
  go_region_held3 (fun w' => w'.cell? ⟨B, 0, none⟩ = some (.int .i64 xe) ∧ w'.cell? ⟨B, 1, none⟩ = some (.int .i64 xc) ∧ w'.cell? ⟨B, 2, none⟩ = some (.int .i64 xi) ∧ w'.cell? ⟨B, 3, none⟩ = some (.int .i64 xfn) ∧ w'.cell? ⟨B, 4, none⟩ = some (.int .i64 xfd) ∧ w'.cell? ⟨B, 5, none⟩ = some (.int .i64 xtn) ∧ w'.cell? ⟨B, 6, none⟩ = some (.int .i64 xtd) ∧ w'.cell? ⟨B, 7, none⟩ = some (.bool xs))
    (with_reducible first | exact s0 | exact s1 | exact s2 | exact s3)
    (first | (go_at_call 13; refine CP.out.mono ?_; rintro e w4 ⟨rfl, hw⟩; obtain rfl := hw))
  clear s0 s1 s2 s3 k0 k1 k2 k3 k4 k5 k6 k7 k8 k9 z0 z1 z2 z3 z4 z5 z6 z7 z8 z9 b0 b1 b2 b3 b4 b5 b6 b7 c0
  generalize ((((((((((W.setCell ⟨g, r, none⟩ (.int .i64 (m : Int))).setCell ⟨g, r + 1, none⟩ (.int .i64 c)).setCell ⟨g, r + 2, none⟩ (.int .i64 xe)).setCell ⟨g, r + 3, none⟩ (.int .i64 xc)).setCell ⟨g, r + 4, none⟩ (.int .i64 xi)).setCell ⟨g, r + 5, none⟩ (.int .i64 xfn)).setCell ⟨g, r + 6, none⟩ (.int .i64 xfd)).setCell ⟨g, r + 7, none⟩ (.int .i64 xtn)).setCell ⟨g, r + 8, none⟩ (.int .i64 xtd)).setCell ⟨g, r + 9, none⟩ (.bool xs)) = X at *
  obtain ⟨cX, fX, kX, nX⟩ := HP.out
  have CS := Lib.hid (istore_any (w := X.drew.drew) (x := (m : Int) + 1) cX fX)
  have FIN : Hid (Ke (Ft p g) w ((X.drew.drew).setCell ⟨p, 1, none⟩ (.int .i64 ((m : Int) + 1))) ∧ Rg ((X.drew.drew).setCell ⟨p, 1, none⟩ (.int .i64 ((m : Int) + 1))) p g k (m + 1) E) := Lib.hid ⟨((((Ke.of_gr G1.out).trans kX).drew).drew).set (.inl (.inl rfl)) _, nX _ (((Ke.refl _ X).drew).drew) _ (by omega)⟩
  have lpX : p < X.heap.size := cell_lt cX
  clear cX fX kX nX HP
  go_wp2_with fail
  refine CS.out.mono ?_
  rintro e w4 ⟨rfl, hw⟩
  obtain rfl := hw.symm
  clear hw
  go_wp2
  go_ret
  exact ⟨rfl, FIN.out⟩

/-- Put: whatever the room. -/
theorem put_any (h : Rg w p g k m E) (hm : m < 1000000) (c : Int) (x : Pc) (hE : E m = ⟨m, c, x⟩) : Calls Try.prog 8 #[.pointer (some ⟨p, 0, none⟩), .int .i64 c, pcV x] w fun e w' => e = .returned (.int .i64 m) ∧ Ke (Ft p g) w w' ∧ Rg w' p g k (m + 1) E := by
  rcases Nat.eq_zero_or_pos k with rfl | hk
  · exact put_none h hm c x
  · exact put_some h hk hm c x hE
end
end Go.Proofs.Ytgnfmmoanmhgpaa
