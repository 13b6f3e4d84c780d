/- A ring in a law; awake. -/
import Derived.Test.YtgnfmmoanmhgpaaA5
namespace Go.Proofs.Ytgnfmmoanmhgpaa
open Go.RowKit Go.Lib
set_option linter.unusedVariables false

theorem Ke.after {F : Nat → Prop} {a b c : World} (h : Gr a b) (k : Ke F b c) (hF : ∀ j, F j → a.heap.size ≤ j) : Gr a c := ⟨k.os.trans h.os, k.output.trans h.output, Nat.le_trans h.size k.size, fun j hj hn => (k.block j (Nat.lt_of_lt_of_le hj h.size) (fun q => by have := hF _ q; omega)).trans (h.block j hj hn)⟩

/-- A ring in a law that began at w0. -/
structure RW (w0 w : World) (p k m : Nat) (E : Nat → En) : Prop where
  ex : ∃ g, Rg w p g k m E ∧ w0.heap.size ≤ g
  gr : Gr w0 w
  lo : w0.heap.size ≤ p
def NewW (w0 w : World) (k : Nat) (E : Nat → En) (e : Ending) (w' : World) : Prop := ∃ p, e = .returned (.pointer (some ⟨p, 0, none⟩)) ∧ RW w0 w' p k 0 E
section
variable {w0 w w' : World} {p k m : Nat} {E : Nat → En}
theorem RW.gro (h : RW w0 w p k m E) (g : Gr w w') : RW w0 w' p k m E := by
  obtain ⟨q, hr, hl⟩ := h.ex
  exact ⟨⟨q, hr.gr g, hl⟩, h.gr.trans g, h.lo⟩
theorem rw_new (g : Gr w0 w) (n : Int) (k : Nat) (hk : (k : Int) = min (max n 0) 4096) (E : Nat → En) : Calls Try.prog 7 #[.int .i64 n] w (NewW w0 w k E) := by
  refine (new_any n k hk E w).mono ?_
  rintro e w' ⟨p, q, rfl, g1, h1, h2, hr⟩
  exact ⟨p, rfl, ⟨q, hr, Nat.le_trans g.size h2⟩, g.trans g1, Nat.le_trans g.size h1⟩
theorem rw_put (h : RW w0 w p k m E) (hm : m < 1000000) {c : Int} {x : Pc} (hE : E m = ⟨m, c, x⟩) {v : Value} (hv : v = pcV x) : Calls Try.prog 8 #[.pointer (some ⟨p, 0, none⟩), .int .i64 c, v] w fun e w' => e = .returned (.int .i64 m) ∧ RW w0 w' p k (m + 1) E := by
  subst hv
  obtain ⟨q, hr, hl⟩ := h.ex
  refine (put_any hr hm c x hE).mono ?_
  rintro e w' ⟨rfl, k1, r1⟩
  exact ⟨rfl, ⟨q, r1, hl⟩, Ke.after h.gr k1 (fun j e => by
    rcases e with rfl | rfl
    · exact h.lo
    · exact hl), h.lo⟩
theorem rw_next (h : RW w0 w p k m E) : Calls Try.prog 9 #[.pointer (some ⟨p, 0, none⟩)] w fun e w' => e = .returned (.int .i64 m) ∧ w' = w := by
  obtain ⟨q, hr, hl⟩ := h.ex
  exact next_any hr
theorem rw_out (h : RW w0 w p k m E) (hm : m ≤ 1000000) (a : Int) (ho : a < ((m - k : Nat) : Int) ∨ (m : Int) ≤ a) : Calls Try.prog 10 #[.pointer (some ⟨p, 0, none⟩), .int .i64 a] w fun e w' => e = .returned (.tuple #[enV en0, .bool false]) ∧ Gr w w' := by
  obtain ⟨q, hr, hl⟩ := h.ex
  refine (get_out hr hm a ho).mono ?_
  rintro e w' ⟨rfl, g⟩
  exact ⟨rfl, g⟩
theorem rw_in (h : RW w0 w p k m E) (hm : m ≤ 1000000) (s : Nat) (h1 : s < m) (h2 : m ≤ s + k) {a : Int} (ha : a = (s : Int)) : Calls Try.prog 10 #[.pointer (some ⟨p, 0, none⟩), .int .i64 a] w fun e w' => e = .returned (.tuple #[enV (E s), .bool true]) ∧ Gr w w' := by
  subst ha
  obtain ⟨q, hr, hl⟩ := h.ex
  refine (get_in hr hm s h1 h2).mono ?_
  rintro e w' ⟨rfl, g⟩
  exact ⟨rfl, g⟩
theorem rw_since0 (h : RW w0 w p k m E) (hm : m ≤ 1000000) (a : Int) (F : Nat → En) (ha : (m : Int) ≤ max a ((m - k : Nat) : Int)) : Calls Try.prog 11 #[.pointer (some ⟨p, 0, none⟩), .int .i64 a] w (SinceQ w 0 F) := by
  obtain ⟨q, hr, hl⟩ := h.ex
  exact since_none hr hm a F ha
theorem rw_since1 (h : RW w0 w p k m E) (hm : m ≤ 1000000) (a : Int) (t n : Nat) (ht : (t : Int) = max a ((m - k : Nat) : Int)) (hn : m = t + n) (h0 : 0 < n) : Calls Try.prog 11 #[.pointer (some ⟨p, 0, none⟩), .int .i64 a] w (SinceQ w n (fun i => E (t + i))) := by
  obtain ⟨q, hr, hl⟩ := h.ex
  exact since_some hr hm a t n ht hn h0
end

/-- The document's example: what is put. -/
def awE (s : Nat) : En := ⟨s, s, ⟨0, 0, s, 0, 0, 0, 0, false⟩⟩

set_option maxRecDepth 100000 in
set_option maxHeartbeats 4000000 in
/-- awake. -/
theorem awake_any (w : World) : Calls Try.prog 6 #[] w fun e w' => e = .returned (.bool true) ∧ Gr w w' := by
  have CN := Lib.hid (rw_new (Ke.refl _ w) 2 2 (by decide) awE)
  go_enter Try.func6, Try.ntmps6
  go_wp2_with fail
  refine CN.out.mono ?_
  rintro e w1 ⟨p, rfl, h1⟩
  have H1 := Lib.hid h1
  clear h1 CN
  go_wp2_with fail
  go_loopg [2] 3 (fun kx s2 wr => ∃ i : Nat, s2 = .int .i64 (i : Int) ∧ i ≤ 3 ∧ 3 - i ≤ kx ∧ Aside (RW w wr p 2 i awE))
  case atStart => exact ⟨0, rfl, by omega, by omega, H1.out⟩
  case round =>
    clear H1
    obtain ⟨i, rfl, hi, hix, D⟩ := hrel
    by_cases hlt : i < 3
    · have d0 : decide ((i : Int) < (3 : Int)) = true := by simp; omega
      have d1 : decide (i < 3) = true := by simp; omega
      have C := Lib.hid (rw_put D.out (by omega) (c := (i : Int)) (x := ⟨0, 0, i, 0, 0, 0, 0, false⟩) rfl (v := .agg #[.int .i64 0, .int .i64 0, .int .i64 i, .int .i64 0, .int .i64 0, .int .i64 0, .int .i64 0, .bool false]) rfl)
      clear D
      go_wp2_with fail
      refine C.out.mono ?_
      rintro e w2 ⟨rfl, h2⟩
      have H2 := Lib.hid h2
      clear h2 C
      go_wp2_with fail
      go_roundg (3 - (i + 1))
      case measure => omega
      case rel => exact ⟨i + 1, by go_num, by omega, by omega, H2.out⟩
    · obtain rfl : i = 3 := by omega
      have HD := Lib.hid D.out
      have C := Lib.hid (rw_out D.out (by omega) 0 (by omega))
      clear D
      go_wp2_with fail
      refine C.out.mono ?_
      rintro e w2 ⟨rfl, g2⟩
      have H2 := HD.out.gro (g2.alloc (enO en0))
      have C2 := Lib.hid (rw_in H2 (by omega) 2 (by omega) (by omega) (a := 2) rfl)
      have HH := Lib.hid H2
      clear C HD g2 H2
      go_wp2_with fail
      generalize w2.alloc (enO en0) = w3 at *
      refine C2.out.mono ?_
      rintro e w4 ⟨rfl, g4⟩
      have H4 := HH.out.gro (g4.alloc (enO (awE 2)))
      have C3 := Lib.hid (rw_next H4)
      have C4 := Lib.hid (rw_since1 H4 (by omega) 0 1 2 (by decide) rfl (by omega))
      obtain ⟨y0, y1, y2, y3, y4, y5, y6, y7, y8, y9⟩ := row10 (en_row (awE 2) w4)
      have HH4 := Lib.hid H4
      clear HH C2 g4 H4
      go_wp2_with fail
      refine C3.out.mono ?_
      rintro e w5 ⟨rfl, hw⟩
      obtain rfl := hw
      go_wp2_with fail
      refine C4.out.mono ?_
      rintro e w6 ⟨a, c, rfl, g6, -, -⟩
      have H6 := Lib.hid (HH4.out.gro g6)
      clear C3 C4 HH4 g6
      go_wp2
      go_ret
      exact ⟨rfl, H6.out.gr⟩
end Go.Proofs.Ytgnfmmoanmhgpaa
