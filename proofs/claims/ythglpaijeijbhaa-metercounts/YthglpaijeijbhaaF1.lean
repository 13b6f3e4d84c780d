/- MeterCounts walked. -/
import Derived.Test.YthglpaijeijbhaaE1
import Derived.Test.YthglpaijeijbhaaD1
import Derived.Deep.DeepCutAuto
import Derived.Deep.CutBlock
import Derived.Deep.RegionLaw
namespace Go.Proofs.Ythglpaijeijbhaa
open Go.RowKit Go.Lib
set_option linter.unusedVariables false

set_option maxRecDepth 100000 in
set_option maxHeartbeats 2000000 in
theorem counts_big (a : Option Addr) (n c0 : Nat) (w : World) (h : 200 < n) : Calls Try.prog 3 #[.slice a n c0] w fun e w' => e = .returned (.bool true) ∧ Gr w w' := by
  have AW := Lib.hid (awake_any w)
  have d1 : decide ((n : Int) > 200) = true := by simp; omega
  have d2 : decide (200 < n) = true := by simp; omega
  go_enter Try.func3, Try.ntmps3
  go_wp2_with fail
  refine AW.out.mono ?_
  rintro e w1 ⟨rfl, g1⟩
  have H := Lib.hid g1
  clear g1 AW
  go_wp2
  go_ret
  exact ⟨rfl, H.out⟩

/-- A meter and the sums by hand. -/
structure Cs (w0 w : World) (p A : Nat) (c : Nat → Int) : Prop where
  h : MW w0 w p c
  row : w.rowIs A 26 5 (fun j => .int .i64 (c j))
  ne : p ≠ A
  lo : w0.heap.size ≤ A
theorem Cs.gro {w0 w w' : World} {p A : Nat} {c : Nat → Int} (h : Cs w0 w p A c) (g : Gr w w') : Cs w0 w' p A c := ⟨h.h.gro g, h.row.of_block (g.block A h.row.lt (fun e => e)), h.ne, h.lo⟩
theorem cs_start {w0 w : World} {p : Nat} (h : MW w0 w p (fun _ => 0)) : Cs w0 (w.alloc zeroO) p w.heap.size (fun _ => 0) :=
  ⟨h.gro ((Ke.refl _ w).alloc zeroO), zero_row w, by have := h.m.lt; omega, h.gr.size⟩
/-- Behind Add, ahead of the sum. -/
structure Cm (w0 w : World) (p A : Nat) (c : Nat → Int) (k : Nat) (s : Int) : Prop where
  h : MW w0 w p (add1 c k s)
  row : w.rowIs A 26 5 (fun j => .int .i64 (c j))
  ne : p ≠ A
  lo : w0.heap.size ≤ A
theorem cs_add {w0 w : World} {p A : Nat} {c : Nat → Int} (h : Cs w0 w p A c) {k : Nat} (hk : k < 5) {n s : Int} (hs : IntKind.i64.wrap (c k + n) = s) : Calls Try.prog 10 #[.pointer (some ⟨p, 0, none⟩), .int .i64 k, .int .i64 n] w fun e w' => e = .returned (.int .i64 s) ∧ Cm w0 w' p A c k s := by
  refine (mw_add h.h hk hs rfl).mono ?_
  rintro e w' ⟨rfl, k1, m⟩
  exact ⟨rfl, m, h.row.of_block (k1.block A h.row.lt (fun e => h.ne e.symm)), h.ne, h.lo⟩
theorem Cm.set {w0 w : World} {p A : Nat} {c : Nat → Int} {k : Nat} {s : Int} (h : Cm w0 w p A c k s) : Cs w0 (w.setCell ⟨A, k, none⟩ (.int .i64 s)) p A (add1 c k s) :=
  ⟨⟨World.rowIs.setOther h.h.m (a := ⟨A, k, none⟩) (fun e => h.ne e) _, h.h.gr.set (p := ⟨A, k, none⟩) (.inr h.lo) _, h.h.lo⟩, (h.row.set k (.int .i64 s)).congr (fun j _ => by unfold add1; split <;> rfl), h.ne, h.lo⟩
theorem Cm.drew {w0 w : World} {p A : Nat} {c : Nat → Int} {k : Nat} {s : Int} (h : Cm w0 w p A c k s) : Cm w0 w.drew p A c k s :=
  ⟨h.h.gro (Ke.refl _ w).drew, h.row, h.ne, h.lo⟩

set_option maxRecDepth 100000 in
set_option maxHeartbeats 4000000 in
theorem counts_walk (a : Option Addr) (n c0 : Nat) (q : Nat → Pk .i64) (w : World) (hn : n ≤ 200) (hq : PrsAt w a n q) :
    Calls Try.prog 3 #[.slice a n c0] w fun e w' => e = .returned (.bool true) ∧ Gr w w' := by
  have AW := Lib.hid (awake_any w)
  have HQ := Lib.hid hq
  have d1 : decide ((n : Int) > 200) = false := by simp; omega
  have d2 : decide (200 < n) = false := by simp; omega
  clear hq
  go_enter Try.func3, Try.ntmps3
  go_wp2_with fail
  refine AW.out.mono ?_
  rintro e w1 ⟨rfl, g1⟩
  have CN := Lib.hid (mw_new g1)
  clear g1 AW
  go_wp2_with fail
  refine CN.out.mono ?_
  rintro e w2 ⟨p, rfl, -, -, h2⟩
  have H2 := Lib.hid (cs_start h2)
  clear h2 CN
  go_wp2_with fail
  generalize w2.heap.size = A at *
  generalize w2.alloc zeroO = w3 at *
  go_loopg [5] n (fun kx s5 wr => ∃ i : Nat, s5 = .int .i64 i ∧ i ≤ n ∧ n - i ≤ kx ∧ Aside (∃ c, Cs w wr p A c))
  case atStart => exact ⟨0, rfl, by omega, by omega, _, H2.out⟩
  case round =>
    clear H2
    obtain ⟨i, rfl, hi, hk, D⟩ := hrel
    by_cases hlt : i < n
    · have dl : decide ((i : Int) < (n : Int)) = true := by simp; omega
      have dl2 : decide (i < n) = true := by simp; omega
      have hltz : (i : Int) < (n : Int) := by omega
      have b0 : (0 : Int) ≤ (i : Int) ∧ (i : Int) < (n : Int) := by omega
      obtain ⟨b0, o0, rfl, hb0, hq⟩ := HQ.out (by omega)
      obtain ⟨qa, qb⟩ := hq i hlt
      have BC : Hid (∀ W : World, Gr w W → W.cell? ⟨b0, o0 + i * 2 + 1, none⟩ = some (.int .i64 (q i).b)) := fun W bw => (bw.cell (p := ⟨b0, o0 + i * 2 + 1, none⟩) hb0 (fun e => e)).trans qb
      obtain ⟨c, DC⟩ := D.out
      have kc := BC.out wr DC.h.gr
      have ka : wr.cell? ⟨b0, o0 + i * 2, none⟩ = some (.int .i64 (q i).a) := (DC.h.gr.cell (p := ⟨b0, o0 + i * 2, none⟩) hb0 (fun e => e)).trans qa
      generalize (q i).a = xa at *
      generalize (q i).b = xb at *
      clear qa qb hq D
      by_cases hr : 0 ≤ xa ∧ xa < 5
      · obtain ⟨k, rfl⟩ := Int.eq_ofNat_of_zero_le hr.1
        have hk5 : k < 5 := by omega
        have e1 : decide ((k : Int) < 0) = false := decide_eq_false (by omega)
        have e2 : decide ((k : Int) ≥ 5) = false := by simp; omega
        have e3 : decide (5 ≤ (k : Int)) = false := by simp; omega
        have e4 : decide (5 ≤ k) = false := by simp; omega
        have b5 : (0 : Int) ≤ (k : Int) ∧ (k : Int) < (5 : Int) := hr
        obtain ⟨s, hs⟩ : ∃ s, IntKind.i64.wrap (c k + xb) = s := ⟨_, rfl⟩
        have C1 := Lib.hid (cs_add DC hk5 hs)
        clear DC hr
        go_wp2_with fail
        refine C1.out.mono ?_
        rintro e w4 ⟨rfl, h4⟩
        have H4 := Lib.hid h4
        clear h4 C1
        go_upto_region 17 with fail
        have k4 : w4.cell? ⟨b0, o0 + i * 2 + 1, none⟩ = some (.int .i64 xb) := BC.out w4 H4.out.h.gr
        have r4 : w4.cell? ⟨A, k, none⟩ = some (.int .i64 (c k)) := H4.out.row.cell hk5
        have f4 : w4.frozen? ⟨A, k, none⟩ = false := H4.out.row.frozen k
        have H5 : Hid (Cs w (w4.setCell ⟨A, k, none⟩ (.int .i64 s)).drew p A (add1 c k s)) := Lib.hid (H4.out.set.gro (Ke.refl _ _).drew)
        have hk2 : add1 c k s k = s := by unfold add1; rw [if_pos rfl]
        generalize c k = ck at *
        go_region
        generalize add1 c k s = c2 at *
        generalize (w4.setCell ⟨A, k, none⟩ (.int .i64 s)).drew = w6 at *
        have D6 := H5.out.gro (Ke.refl _ w6).drew
        have CG := Lib.hid (mw_get D6.h hk5 hk2 rfl)
        have CL := Lib.hid (mw_all5 D6.h (x0 := c2 0) (x1 := c2 1) (x2 := c2 2) (x3 := c2 3) (x4 := c2 4) rfl rfl rfl rfl rfl)
        have KK : Hid (∀ W, Gr w6.drew W → W.cell? ⟨A, k, none⟩ = some (.int .i64 s) ∧ W.cell? ⟨A, 0, none⟩ = some (.int .i64 (c2 0)) ∧ W.cell? ⟨A, 1, none⟩ = some (.int .i64 (c2 1)) ∧ W.cell? ⟨A, 2, none⟩ = some (.int .i64 (c2 2)) ∧ W.cell? ⟨A, 3, none⟩ = some (.int .i64 (c2 3)) ∧ W.cell? ⟨A, 4, none⟩ = some (.int .i64 (c2 4))) := Lib.hid (fun W g => by
          have r := (D6.gro g).row
          have e := r.cell hk5
          rw [hk2] at e
          exact ⟨e, r.cell (i := 0) (by omega), r.cell (i := 1) (by omega), r.cell (i := 2) (by omega), r.cell (i := 3) (by omega), r.cell (i := 4) (by omega)⟩)
        have ka := KK.out _ (Ke.refl _ w6.drew)
        have CX : Hid (Calls Try.prog 12 #[.pointer (some ⟨p, 0, none⟩)] w6.drew fun e w' => e = .returned (.agg #[.int .i64 (c2 0), .int .i64 (c2 1), .int .i64 (c2 2), .int .i64 (c2 3), .int .i64 (c2 4)]) ∧ Gr w6.drew w' ∧ Cs w w' p A c2) := Lib.hid (CL.out.mono (by
          rintro e w' ⟨rfl, g, _⟩
          exact ⟨rfl, g, D6.gro g⟩))
        clear hk2 D6 CL k4 r4 f4 H4 H5
        generalize c2 0 = y0 at *
        generalize c2 1 = y1 at *
        generalize c2 2 = y2 at *
        generalize c2 3 = y3 at *
        generalize c2 4 = y4 at *
        have EQ := eq5
        go_upto_region 18 with fail
        go_region_held3 (fun w' => w'.cell? ⟨A, k, none⟩ = some (.int .i64 s) ∧ w'.cell? ⟨A, 0, none⟩ = some (.int .i64 y0) ∧ w'.cell? ⟨A, 1, none⟩ = some (.int .i64 y1) ∧ w'.cell? ⟨A, 2, none⟩ = some (.int .i64 y2) ∧ w'.cell? ⟨A, 3, none⟩ = some (.int .i64 y3) ∧ w'.cell? ⟨A, 4, none⟩ = some (.int .i64 y4))
          (with_reducible first | exact ka | exact kb)
          (first | (go_at_call 11; refine CG.out.mono ?_; rintro e w4 ⟨rfl, hw⟩; obtain rfl := hw.symm; clear hw) | (go_at_call 12; refine CX.out.mono ?_; rintro e w4 ⟨rfl, g4, h4⟩; have kb := KK.out _ g4; have H4 := Lib.hid h4; clear h4 g4))
        go_wp2_with fail
        go_roundg (n - (i + 1))
        case measure => omega
        case rel => exact ⟨i + 1, by go_num, by omega, by omega, _, H4.out⟩
      · have C1 := Lib.hid (add_out (p := p) (k := xa) (n := xb) hr wr)
        have C2 := Lib.hid (get_out (p := p) (k := xa) hr wr)
        have HD := Lib.hid DC
        by_cases h0 : xa < 0
        · have e1 : decide (xa < 0) = true := decide_eq_true h0
          clear DC hr
          go_wp2_with fail
          refine C1.out.mono ?_
          rintro e w4 ⟨rfl, hw⟩
          obtain rfl := hw.symm
          clear hw C1
          go_wp2_with fail
          refine C2.out.mono ?_
          rintro e w4 ⟨rfl, hw⟩
          obtain rfl := hw.symm
          clear hw C2
          go_wp2_with fail
          go_roundg (n - (i + 1))
          case measure => omega
          case rel => exact ⟨i + 1, by go_num, by omega, by omega, _, HD.out⟩
        · have e1 : decide (xa < 0) = false := decide_eq_false h0
          have e2 : decide (xa ≥ 5) = true := decide_eq_true (by omega)
          have e3 : decide (5 ≤ xa) = true := decide_eq_true (by omega)
          clear DC hr
          go_wp2_with fail
          refine C1.out.mono ?_
          rintro e w4 ⟨rfl, hw⟩
          obtain rfl := hw.symm
          clear hw C1
          go_wp2_with fail
          refine C2.out.mono ?_
          rintro e w4 ⟨rfl, hw⟩
          obtain rfl := hw.symm
          clear hw C2
          go_wp2_with fail
          go_roundg (n - (i + 1))
          case measure => omega
          case rel => exact ⟨i + 1, by go_num, by omega, by omega, _, HD.out⟩
    · obtain rfl : n = i := by omega
      have d0 : decide ((n : Int) < (n : Int)) = false := by simp
      obtain ⟨c, DC⟩ := D.out
      have HG := Lib.hid DC.h.gr
      clear D DC
      go_wp2
      go_ret
      exact ⟨rfl, HG.out⟩
end Go.Proofs.Ythglpaijeijbhaa
