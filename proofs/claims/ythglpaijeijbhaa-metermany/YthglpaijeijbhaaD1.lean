/- MeterMany walked. -/
import Derived.Test.YthglpaijeijbhaaC1
namespace Go.Proofs.Ythglpaijeijbhaa
open Go.RowKit Go.Lib
set_option linter.unusedVariables false

/-- The sum of the first counters. -/
def psum (c : Nat → Int) : Nat → Int
  | 0 => 0
  | i + 1 => psum c i + c i
theorem psum5 (c : Nat → Int) : psum c 5 = c 0 + c 1 + c 2 + c 3 + c 4 := by simp [psum]
theorem psum_add1 (c : Nat → Int) {k : Nat} (hk : k < 5) (x : Int) : psum (add1 c k x) 5 = psum c 5 - c k + x := by
  rw [psum5, psum5]
  unfold add1
  rcases (show k = 0 ∨ k = 1 ∨ k = 2 ∨ k = 3 ∨ k = 4 by omega) with rfl | rfl | rfl | rfl | rfl <;> simp <;> omega
theorem psum_bd {c : Nat → Int} {B : Int} (h : ∀ j, -B ≤ c j ∧ c j ≤ B) (hB : 0 ≤ B) : ∀ i, i ≤ 5 → -(5 * B) ≤ psum c i ∧ psum c i ≤ 5 * B := by
  intro i hi
  have h0 := h 0
  have h1 := h 1
  have h2 := h 2
  have h3 := h 3
  have h4 := h 4
  rcases (show i = 0 ∨ i = 1 ∨ i = 2 ∨ i = 3 ∨ i = 4 ∨ i = 5 by omega) with rfl | rfl | rfl | rfl | rfl | rfl <;> simp [psum] <;> omega

/-- A row of five made anew. -/
abbrev valO (c : Nat → Int) : Obj := .cells #[.int .i64 (c 0), .int .i64 (c 1), .int .i64 (c 2), .int .i64 (c 3), .int .i64 (c 4)] 26
theorem val_row (c : Nat → Int) (w : World) : (w.alloc (valO c)).rowIs w.heap.size 26 5 (fun j => .int .i64 (c j)) := World.rowIs_alloc w _ 26 (fun j => .int .i64 (c j)) (fun i hi => by
  simp only [List.size_toArray, List.length_cons, List.length_nil] at hi
  rcases (show i = 0 ∨ i = 1 ∨ i = 2 ∨ i = 3 ∨ i = 4 by omega) with rfl | rfl | rfl | rfl | rfl <;> rfl)

/-- The meter after m additions of y. -/
structure Mn (w0 w : World) (p : Nat) (y : Int) (m : Nat) (c : Nat → Int) : Prop where
  h : MW w0 w p c
  s : psum c 5 = (m : Int) * y
  b : ∀ j, -((m : Int) * 32768) ≤ c j ∧ c j ≤ (m : Int) * 32768
theorem mn_start {w0 w : World} {p : Nat} {y : Int} (h : MW w0 w p (fun _ => 0)) : Mn w0 w p y 0 (fun _ => 0) := ⟨h, by simp [psum5], fun j => by simp⟩
theorem mn_get {w0 w : World} {p : Nat} {y : Int} {m : Nat} {c : Nat → Int} (h : Mn w0 w p y m c) {k : Nat} (hk : k < 5) (hm : m ≤ 1000) : ∃ x, c k = x ∧ -40000000 ≤ x ∧ x ≤ 40000000 ∧ Calls Try.prog 11 #[.pointer (some ⟨p, 0, none⟩), .int .i64 k] w fun e w' => e = .returned (.int .i64 x) ∧ w' = w := by
  have := h.b k
  exact ⟨_, rfl, by omega, by omega, mw_get h.h hk rfl rfl⟩
theorem mn_add {w0 w : World} {p : Nat} {y : Int} {m : Nat} {c : Nat → Int} (h : Mn w0 w p y m c) {k : Nat} (hk : k < 5) (hm : m ≤ 1000) {x : Int} (hx : c k = x) (hy : -32768 ≤ y ∧ y ≤ 32767) : Calls Try.prog 10 #[.pointer (some ⟨p, 0, none⟩), .int .i64 k, .int .i64 y] w fun e w' => e = .returned (.int .i64 (x + y)) ∧ ∃ c', Mn w0 w' p y (m + 1) c' := by
  have hb := h.b k
  refine (mw_add h.h hk (n := y) (s := x + y) (by rw [hx]; exact wrap_fit (by omega) (by omega)) rfl).mono ?_
  rintro e w' ⟨rfl, -, mm⟩
  refine ⟨rfl, _, mm, ?_, fun j => ?_⟩
  · rw [psum_add1 c hk, h.s, hx]
    rw [show ((m + 1 : Nat) : Int) = (m : Int) + 1 by omega, Int.add_mul, Int.one_mul]
    omega
  · have := h.b j
    unfold add1
    split <;> omega

set_option maxRecDepth 100000 in
set_option maxHeartbeats 4000000 in
theorem many_walk (many times y : Int) (hm : 0 ≤ many ∧ many ≤ 255) (ht : 0 ≤ times ∧ times ≤ 255) (hy : -32768 ≤ y ∧ y ≤ 32767) (w : World) :
    Calls Try.prog 4 #[.int .u8 many, .int .u8 times, .int .i16 y] w fun e w' => e = .returned (.bool true) ∧ Gr w w' := by
  have AW := Lib.hid (awake_any w)
  obtain ⟨r1, hr1⟩ : ∃ r, many % 12 = r := ⟨_, rfl⟩
  obtain ⟨r2, hr2⟩ : ∃ r, times % 60 = r := ⟨_, rfl⟩
  have hr1' : many.tmod 12 = r1 := by rw [Int.tmod_eq_emod_of_nonneg hm.1]; exact hr1
  have b1 : 0 ≤ r1 ∧ r1 ≤ 11 := by omega
  have b2 : 0 ≤ r2 ∧ r2 ≤ 59 := by omega
  obtain ⟨K, hK⟩ := Int.eq_ofNat_of_zero_le (show 0 ≤ 1 + r1 by omega)
  obtain ⟨T, rfl⟩ := Int.eq_ofNat_of_zero_le b2.1
  have hr2' : times.tmod 60 = T := by rw [Int.tmod_eq_emod_of_nonneg ht.1]; exact hr2
  have bK : 1 ≤ K ∧ K ≤ 12 := by omega
  have bT : T ≤ 59 := by omega
  have w1' : wrap64 many = many := by unfold wrap64; omega
  have w2' : wrap64 times = times := by unfold wrap64; omega
  have w3' : wrap64 (1 + r1) = K := by rw [← hK]; unfold wrap64; omega
  have w4' : wrap64 y = y := by unfold wrap64; omega
  have HY := Lib.hid hy
  clear hm ht hK hr1 hr2 b1 b2 hy
  go_enter Try.func4, Try.ntmps4
  go_wp2_with fail
  refine AW.out.mono ?_
  rintro e w1 ⟨rfl, g1⟩
  have CN := Lib.hid (mw_new g1)
  clear g1 AW
  go_wp2_with fail
  refine CN.out.mono ?_
  rintro e w2 ⟨p, rfl, -, -, h2⟩
  have H2 := Lib.hid (mn_start (y := y) h2)
  clear h2 CN
  go_wp2_with fail
  simp only [w1', w2', w3']
  go_loopg [10] T (fun kx s10 wr => ∃ n : Nat, s10 = .int .i64 (n : Int) ∧ n ≤ T ∧ T - n ≤ kx ∧ Aside (∃ c, Mn w wr p y (n * K) c))
  case atStart => exact ⟨0, rfl, by omega, by omega, _, by rw [Nat.zero_mul]; exact H2.out⟩
  case round =>
    clear H2
    obtain ⟨n, rfl, hn, hnx, D⟩ := hrel
    by_cases hlt : n < T
    · have d0 : decide ((n : Int) < (T : Int)) = true := by simp; omega
      have d1 : decide (n < T) = true := by simp; omega
      have HD := Lib.hid D.out
      have B1 : Hid (n * K ≤ 58 * 12) := Lib.hid (Nat.mul_le_mul (show n ≤ 58 by omega) bK.2)
      clear D
      go_wp2_with fail
      go_loopg [11] K (fun kx s11 wr => ∃ i : Nat, s11 = .int .i64 (i : Int) ∧ i ≤ K ∧ K - i ≤ kx ∧ Aside (∃ c, Mn w wr p y (n * K + i) c))
      case atStart => exact ⟨0, rfl, by omega, by omega, HD.out⟩
      case round =>
        clear HD
        obtain ⟨i, rfl, hi, hix, D⟩ := hrel
        by_cases hl2 : i < K
        · have d2 : decide ((i : Int) < (K : Int)) = true := by simp; omega
          have d3 : decide (i < K) = true := by simp; omega
          obtain ⟨c, DC⟩ := D.out
          obtain ⟨r, hr⟩ : ∃ r, i % 5 = r := ⟨_, rfl⟩
          have e1 : (i : Int) % 5 = (r : Int) := by omega
          have e2 : (i : Int).tmod 5 = (r : Int) := by rw [Int.tmod_eq_emod_of_nonneg (by omega)]; exact e1
          have br : r < 5 := by omega
          obtain ⟨x, hx, x1, x2, C1⟩ := mn_get DC br (by have := B1.out; omega)
          have C2 := Lib.hid (mn_add DC br (by have := B1.out; omega) hx HY.out)
          have C1 := Lib.hid C1
          have w5 : wrap64 (x + y) = x + y := by have := HY.out; unfold wrap64; omega
          clear D DC hx hr x1 x2
          go_wp2_with fail
          refine C1.out.mono ?_
          rintro e w4 ⟨rfl, hw⟩
          obtain rfl := hw.symm
          clear hw C1
          go_wp2_with fail
          refine C2.out.mono ?_
          rintro e w4 ⟨rfl, h4⟩
          have H4 := Lib.hid h4
          clear h4 C2
          go_wp2_with fail
          go_roundg (K - (i + 1))
          case measure => omega
          case rel => exact ⟨i + 1, by go_num, by omega, by omega, H4.out⟩
        · have d2 : decide ((i : Int) < (K : Int)) = false := by simp; omega
          have d3 : decide (i < K) = false := by simp; omega
          obtain rfl : K = i := by omega
          have HD := Lib.hid D.out
          clear D
          go_wp2_with fail
          go_roundg (T - (n + 1))
          case measure => omega
          case rel => exact ⟨n + 1, by go_num, by omega, by omega, by rw [Nat.succ_mul]; exact HD.out⟩
    · obtain rfl : T = n := by omega
      have d2 : decide ((T : Int) < (T : Int)) = false := by simp
      obtain ⟨c, DC⟩ := D.out
      have C1 := Lib.hid (mw_all DC.h)
      have bTK : T * K ≤ 59 * 12 := Nat.mul_le_mul bT bK.2
      have PB : Hid (∀ i, i ≤ 5 → -200000000 ≤ psum c i ∧ psum c i ≤ 200000000) := Lib.hid (fun i hi => by
        have := psum_bd (c := c) (B := 40000000) (fun j => by have := DC.b j; omega) (by omega) i hi
        omega)
      obtain ⟨P, hP⟩ : ∃ P, T * K = P := ⟨_, rfl⟩
      have SP := DC.s
      rw [hP] at SP bTK
      have hP2 : (K : Int) * (T : Int) = (P : Int) := by rw [← hP, Int.mul_comm]; simp
      obtain ⟨Q, hQ⟩ : ∃ Q, (P : Int) * y = Q := ⟨_, rfl⟩
      have w5 : wrap64 (P : Int) = P := by unfold wrap64; omega
      have bQ := PB.out 5 (by omega)
      rw [SP, hQ] at bQ
      have w6 : wrap64 Q = Q := by unfold wrap64; omega
      have SQ : Hid (psum c 5 = Q) := Lib.hid (SP.trans hQ)
      clear D DC bQ SP hP bTK
      go_wp2_with fail
      refine C1.out.mono ?_
      rintro e w4 ⟨rfl, -, h4⟩
      have R4 := Lib.hid (val_row c w4)
      have G4 := Lib.hid (h4.gr.trans ((Ke.refl _ w4).alloc (valO c)))
      clear C1 h4
      go_wp2_with fail
      generalize w4.heap.size = A at *
      generalize w4.alloc (valO c) = w5 at *
      go_loopg [13, 15] 5 (fun kx s13 s15 wr => ∃ i : Nat, s15 = .int .i64 (i : Int) ∧ s13 = .int .i64 (psum c i) ∧ i ≤ 5 ∧ 5 - i ≤ kx ∧ Aside (wr.rowIs A 26 5 (fun j => .int .i64 (c j)) ∧ Gr w wr))
      case atStart => exact ⟨0, rfl, rfl, by omega, by omega, R4.out, G4.out⟩
      case round =>
        clear R4 G4
        obtain ⟨i, rfl, rfl, hi, hix, D⟩ := hrel
        by_cases hl2 : i < 5
        · have d2 : decide ((i : Int) < (5 : Int)) = true := by simp; omega
          have d3 : decide (i < 5) = true := by simp; omega
          have b0 : (0 : Int) ≤ (i : Int) ∧ (i : Int) < (5 : Int) := by omega
          have HD := Lib.hid D.out
          have cv := HD.out.1.cell hl2
          have ws : wrap64 (psum c i + c i) = psum c (i + 1) := by
            have := PB.out (i + 1) (by omega)
            show wrap64 (psum c (i + 1)) = _
            unfold wrap64
            omega
          clear D
          go_wp2_with fail
          go_roundg (5 - (i + 1))
          case measure => omega
          case rel => exact ⟨i + 1, by go_num, by first | rfl | exact congrArg (Value.int .i64) ws, by omega, by omega, HD.out⟩
        · obtain rfl : i = 5 := by omega
          have HD := Lib.hid D.out
          clear D
          rw [SQ.out]
          go_wp2
          go_ret
          exact ⟨rfl, HD.out.2⟩
end Go.Proofs.Ythglpaijeijbhaa
