/- Two meters; MeterApart walked. -/
import Derived.Test.YthglpaijeijbhaaB1
namespace Go.Proofs.Ythglpaijeijbhaa
open Go.RowKit Go.Lib
set_option linter.unusedVariables false

theorem wf_u8 {n : Int} (h : (Lit.int .u8 n).wf = true) : 0 ≤ n ∧ n ≤ 255 := by
  have hmin : IntKind.u8.min = 0 := rfl
  have hmax : IntKind.u8.max = 255 := rfl
  simp only [Lit.wf, Bool.and_eq_true, decide_eq_true_eq] at h
  omega
theorem wf_i16 {n : Int} (h : (Lit.int .i16 n).wf = true) : -32768 ≤ n ∧ n ≤ 32767 := by
  have hmin : IntKind.i16.min = -32768 := rfl
  have hmax : IntKind.i16.max = 32767 := rfl
  simp only [Lit.wf, Bool.and_eq_true, decide_eq_true_eq] at h
  omega
theorem wrap_fit {x : Int} (h : -9223372036854775808 ≤ x) (h' : x ≤ 9223372036854775807) : IntKind.i64.wrap x = x := by
  rw [IntKind.wrap_i64]; omega
/-- The first counter alone. -/
def cnt0 (x : Int) : Nat → Int := fun j => if j = 0 then x else 0
theorem cnt0_add (x y : Int) : add1 (cnt0 x) 0 y = cnt0 y := by
  funext j
  unfold add1 cnt0
  split <;> rfl
/-- Two meters, the first counter of each. -/
structure Two (w0 w : World) (p q : Nat) (x y : Nat) : Prop where
  a : MW w0 w p (cnt0 x)
  b : MW w0 w q (cnt0 y)
  ne : p ≠ q
theorem two_new {w0 w w' : World} {p q : Nat} (h : MW w0 w p (fun _ => 0)) (e : q = w.heap.size) (g : Gr w w') (k : MW w0 w' q (fun _ => 0)) : Two w0 w' p q 0 0 := by
  have hz : (fun _ => 0 : Nat → Int) = cnt0 ((0 : Nat) : Int) := by
    funext j
    unfold cnt0
    split <;> rfl
  have hp := h.m.lt
  rw [hz] at h k
  exact ⟨h.gro g, k, by omega⟩
theorem two_a {w0 w : World} {p q x y : Nat} (h : Two w0 w p q x y) (hx : x < 10000) : Calls Try.prog 10 #[.pointer (some ⟨p, 0, none⟩), .int .i64 0, .int .i64 1] w fun e w' => (∃ v, e = .returned v) ∧ Two w0 w' p q (x + 1) y := by
  refine (mw_add h.a (k := 0) (by omega) (n := 1) (s := ((x + 1 : Nat) : Int)) (by rw [show cnt0 (x : Int) 0 = x from rfl, wrap_fit (by omega) (by omega)]; omega) (ki := 0) rfl).mono ?_
  rintro e w' ⟨rfl, k, m⟩
  rw [cnt0_add] at m
  exact ⟨⟨_, rfl⟩, m, ⟨h.b.m.keep k (fun e => h.ne e.symm), m.gr, h.b.lo⟩, h.ne⟩
theorem two_b {w0 w : World} {p q x y : Nat} (h : Two w0 w p q x y) (hy : y < 10000) : Calls Try.prog 10 #[.pointer (some ⟨q, 0, none⟩), .int .i64 0, .int .i64 2] w fun e w' => (∃ v, e = .returned v) ∧ Two w0 w' p q x (y + 2) := by
  refine (mw_add h.b (k := 0) (by omega) (n := 2) (s := ((y + 2 : Nat) : Int)) (by rw [show cnt0 (y : Int) 0 = y from rfl, wrap_fit (by omega) (by omega)]; omega) (ki := 0) rfl).mono ?_
  rintro e w' ⟨rfl, k, m⟩
  rw [cnt0_add] at m
  exact ⟨⟨_, rfl⟩, ⟨h.a.m.keep k (fun e => h.ne e), m.gr, h.a.lo⟩, m, h.ne⟩

set_option maxRecDepth 100000 in
set_option maxHeartbeats 4000000 in
theorem apart_walk (a b : Nat) (ha : a ≤ 255) (hb : b ≤ 255) (w : World) :
    Calls Try.prog 7 #[.int .u8 a, .int .u8 b] w fun e w' => e = .returned (.bool true) ∧ Gr w w' := by
  have AW := Lib.hid (awake_any w)
  have wa : wrap64 (a : Int) = a := by unfold wrap64; omega
  have wb : wrap64 (b : Int) = b := by unfold wrap64; omega
  have HA := Lib.hid ha
  have HB := Lib.hid hb
  go_enter Try.func7, Try.ntmps7
  go_wp2_with fail
  refine AW.out.mono ?_
  rintro e w1 ⟨rfl, g1⟩
  have CN := Lib.hid (mw_new g1)
  clear g1 AW
  go_wp2_with fail
  refine CN.out.mono ?_
  rintro e w2 ⟨p, rfl, -, -, h2⟩
  have H2 := Lib.hid h2
  have CN2 := Lib.hid (mw_new h2.gr)
  clear h2 CN
  go_wp2_with fail
  refine CN2.out.mono ?_
  rintro e w3 ⟨q, rfl, hq, g3, h3⟩
  have H3 := Lib.hid (two_new H2.out hq g3 h3)
  clear H2 CN2 hq g3 h3
  go_wp2_with fail
  go_loopg [7] 4 (fun kx s7 wr => ∃ i : Nat, s7 = .int .i64 (i : Int) ∧ i ≤ 4 ∧ 4 - i ≤ kx ∧ Aside (Two w wr p q (i * a) (i * b * 2)))
  case atStart => exact ⟨0, rfl, by omega, by omega, by rw [Nat.zero_mul, Nat.zero_mul, Nat.zero_mul]; exact H3.out⟩
  case round =>
    clear H3
    obtain ⟨i, rfl, hi, hix, D⟩ := hrel
    by_cases hlt : i < 4
    · have d0 : decide ((i : Int) < (4 : Int)) = true := by simp; omega
      have d1 : decide (i < 4) = true := by simp; omega
      have HD := Lib.hid D.out
      have B1 : Hid (i * a ≤ 765) := Lib.hid (Nat.mul_le_mul (show i ≤ 3 by omega) HA.out)
      have B2 : Hid (i * b ≤ 765) := Lib.hid (Nat.mul_le_mul (show i ≤ 3 by omega) HB.out)
      clear D
      go_wp2_with fail
      go_loopg [8] a (fun kx s8 wr => ∃ n : Nat, s8 = .int .i64 (n : Int) ∧ n ≤ a ∧ a - n ≤ kx ∧ Aside (Two w wr p q (i * a + n) (i * b * 2)))
      case atStart => exact ⟨0, rfl, by omega, by omega, HD.out⟩
      case round =>
        clear HD
        obtain ⟨n, rfl, hn, hnx, D⟩ := hrel
        by_cases hl2 : n < a
        · have d2 : decide ((n : Int) < (a : Int)) = true := by simp; omega
          have d3 : decide (n < a) = true := by simp; omega
          have C := Lib.hid (two_a D.out (by have := B1.out; have := HA.out; omega))
          clear D
          go_wp2_with fail
          refine C.out.mono ?_
          rintro e w4 ⟨⟨v, rfl⟩, h4⟩
          have H4 := Lib.hid h4
          clear h4 C
          go_wp2_with fail
          go_roundg (a - (n + 1))
          case measure => omega
          case rel => exact ⟨n + 1, by go_num, by omega, by omega, H4.out⟩
        · have d2 : decide ((n : Int) < (a : Int)) = false := by simp; omega
          have d3 : decide (n < a) = false := by simp; omega
          obtain rfl : a = n := by omega
          have HD := Lib.hid D.out
          clear D
          go_wp2_with fail
          go_loopg [9] b (fun kx s9 wr => ∃ m : Nat, s9 = .int .i64 (m : Int) ∧ m ≤ b ∧ b - m ≤ kx ∧ Aside (Two w wr p q (i * a + a) (i * b * 2 + m * 2)))
          case atStart => exact ⟨0, rfl, by omega, by omega, HD.out⟩
          case round =>
            clear HD
            obtain ⟨m, rfl, hm, hmx, D⟩ := hrel
            by_cases hl3 : m < b
            · have d2 : decide ((m : Int) < (b : Int)) = true := by simp; omega
              have d3 : decide (m < b) = true := by simp; omega
              have C := Lib.hid (two_b D.out (by have := B2.out; have := HB.out; omega))
              clear D
              go_wp2_with fail
              refine C.out.mono ?_
              rintro e w4 ⟨⟨v, rfl⟩, h4⟩
              have H4 := Lib.hid h4
              clear h4 C
              go_wp2_with fail
              go_roundg (b - (m + 1))
              case measure => omega
              case rel => exact ⟨m + 1, by go_num, by omega, by omega, by rw [show i * b * 2 + (m + 1) * 2 = i * b * 2 + m * 2 + 2 by omega]; exact H4.out⟩
            · have d2 : decide ((m : Int) < (b : Int)) = false := by simp; omega
              have d3 : decide (m < b) = false := by simp; omega
              obtain rfl : b = m := by omega
              have HD := Lib.hid D.out
              clear D
              go_wp2_with fail
              go_roundg (4 - (i + 1))
              case measure => omega
              case rel => exact ⟨i + 1, by go_num, by omega, by omega, by rw [Nat.succ_mul, Nat.succ_mul, Nat.add_mul]; exact HD.out⟩
    · obtain rfl : i = 4 := by omega
      have C1 := Lib.hid (mw_get D.out.a (k := 0) (by omega) (s := 4 * (a : Int)) (by show ((4 * a : Nat) : Int) = _; omega) (ki := 0) rfl)
      have C2 := Lib.hid (mw_get D.out.b (k := 0) (by omega) (s := 8 * (b : Int)) (by show ((4 * b * 2 : Nat) : Int) = _; omega) (ki := 0) rfl)
      have HG := Lib.hid D.out.a.gr
      have wa2 : wrap64 (4 * (a : Int)) = 4 * (a : Int) := by have := HA.out; unfold wrap64; omega
      have wb2 : wrap64 (8 * (b : Int)) = 8 * (b : Int) := by have := HB.out; unfold wrap64; omega
      clear D
      go_wp2_with fail
      refine C1.out.mono ?_
      rintro e w4 ⟨rfl, hw⟩
      obtain rfl := hw.symm
      clear hw
      go_wp2_with fail
      refine C2.out.mono ?_
      rintro e w4 ⟨rfl, hw⟩
      obtain rfl := hw.symm
      clear hw C1 C2
      go_wp2
      go_ret
      exact ⟨rfl, HG.out⟩
end Go.Proofs.Ythglpaijeijbhaa
