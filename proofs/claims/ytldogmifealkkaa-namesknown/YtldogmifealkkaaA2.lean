/- Contracts of Error, at, words, New, Made's load. -/
import Derived.Test.YtldogmifealkkaaA1
namespace Go.Proofs.Ytldogmifealkkaa
open Go.RowKit Go.Lib
set_option linter.unusedVariables false

abbrev sErr : ByteArray := ⟨#[101, 114, 114, 111, 114]⟩
abbrev sNone : ByteArray := ⟨#[]⟩
theorem ret_str {a b : ByteArray} (h : a = b) : Ending.returned (.string a) = Ending.returned (.string b) := by rw [h]
theorem atW_out {f : Nat → ByteArray} {n : Nat} {i : Int} {o : ByteArray} (h : ¬ (0 ≤ i ∧ i < n)) : atW f n i o = o := if_neg h
theorem atW_in {f : Nat → ByteArray} {n : Nat} {i : Int} {o : ByteArray} (h : 0 ≤ i ∧ i < n) : atW f n i o = f i.toNat := if_pos h

/-- (Errno).Error. -/
theorem error_any (e : Int) (w : World) : Calls Try.prog 15 #[.int .i64 e] w fun x w' => x = .returned (.string (atW erW 15 e sErr)) ∧ w' = w := by
  by_cases h : 0 ≤ e ∧ e < 15
  · rcases (show e = 0 ∨ e = 1 ∨ e = 2 ∨ e = 3 ∨ e = 4 ∨ e = 5 ∨ e = 6 ∨ e = 7 ∨ e = 8 ∨ e = 9 ∨ e = 10 ∨ e = 11 ∨ e = 12 ∨ e = 13 ∨ e = 14 by omega) with rfl | rfl | rfl | rfl | rfl | rfl | rfl | rfl | rfl | rfl | rfl | rfl | rfl | rfl | rfl <;>
    (clear h; go_enter Try.func15, Try.ntmps15; go_wp2; go_ret; exact ⟨rfl, rfl⟩)
  · have H := Lib.hid (atW_out (f := erW) (o := sErr) h)
    have e0 : (e == 0) = false := by simp; omega
    have e1 : (e == 1) = false := by simp; omega
    have e2 : (e == 2) = false := by simp; omega
    have e3 : (e == 3) = false := by simp; omega
    have e4 : (e == 4) = false := by simp; omega
    have e5 : (e == 5) = false := by simp; omega
    have e6 : (e == 6) = false := by simp; omega
    have e7 : (e == 7) = false := by simp; omega
    have e8 : (e == 8) = false := by simp; omega
    have e9 : (e == 9) = false := by simp; omega
    have e10 : (e == 10) = false := by simp; omega
    have e11 : (e == 11) = false := by simp; omega
    have e12 : (e == 12) = false := by simp; omega
    have e13 : (e == 13) = false := by simp; omega
    have e14 : (e == 14) = false := by simp; omega
    clear h
    go_enter Try.func15, Try.ntmps15
    go_wp2
    go_ret
    exact ⟨ret_str H.out.symm, rfl⟩

/-- at. -/
theorem at_any {w : World} {B n c : Nat} {f : Nat → ByteArray} (hn : n ≤ 100) (h : ∀ j, j < n → w.cell? ⟨B, j, none⟩ = some (.string (f j))) (i : Int) (o : ByteArray) :
    Calls Try.prog 18 #[.slice (some ⟨B, 0, none⟩) n c, .int .i64 i, .string o] w fun x w' => x = .returned (.string (atW f n i o)) ∧ w' = w := by
  by_cases h0 : i < 0
  · have H := Lib.hid (atW_out (f := f) (n := n) (i := i) (o := o) (by omega))
    have d0 : decide (i < 0) = true := by simp [h0]
    clear h
    go_enter Try.func18, Try.ntmps18
    go_wp2
    go_ret
    exact ⟨ret_str H.out.symm, rfl⟩
  · have d0 : decide (i < 0) = false := by simp; omega
    obtain ⟨k, rfl⟩ := Int.eq_ofNat_of_zero_le (show 0 ≤ i by omega)
    by_cases h1 : k < n
    · have H := Lib.hid (atW_in (f := f) (n := n) (i := (k : Int)) (o := o) (by omega))
      have c0 := h k h1
      have d1 : decide ((n : Int) ≤ (k : Int)) = false := by simp; omega
      have d2 : decide (n ≤ k) = false := by simp; omega
      have d3 : ¬ n ≤ k := by omega
      have b0 : (0 : Int) ≤ (k : Int) ∧ (k : Int) < (n : Int) := by omega
      clear h h0
      go_enter Try.func18, Try.ntmps18
      go_wp2
      go_ret
      exact ⟨ret_str H.out.symm, rfl⟩
    · have H := Lib.hid (atW_out (f := f) (n := n) (i := (k : Int)) (o := o) (by omega))
      have d1 : decide ((n : Int) ≤ (k : Int)) = true := by simp; omega
      have d2 : decide (n ≤ k) = true := by simp; omega
      have d3 : n ≤ k := by omega
      clear h h0
      go_enter Try.func18, Try.ntmps18
      go_wp2
      go_ret
      exact ⟨ret_str H.out.symm, rfl⟩

/-- A slice of words as it was made: nobody writes it. -/
def Wd (w : World) (B n : Nat) (f : Nat → ByteArray) : Prop := ∀ j, j < n → w.cell? ⟨B, j, none⟩ = some (.string (f j))
theorem Wd.keep {w w' : World} {B n : Nat} {f : Nat → ByteArray} (h : Wd w B n f) (e : w'.heap[B]? = w.heap[B]?) : Wd w' B n f := fun j hj => (World.cell?_of_block (a := ⟨B, j, none⟩) e).trans (h j hj)
theorem Wd.gr {w w' : World} {B n : Nat} {f : Nat → ByteArray} (h : Wd w B n f) (hB : B < w.heap.size) (e : Gr w w') : Wd w' B n f := h.keep (e.block B hB (fun x => x))

abbrev wordsO : Obj := .cells #[.string (opW 0), .string (opW 1), .string (opW 2), .string (opW 3), .string (opW 4), .string (opW 5), .string (opW 6), .string (opW 7), .string (opW 8)] 9
/-- words. -/
theorem words_any (w : World) : Calls Try.prog 10 #[] w fun x w' => x = .returned (.slice (some ⟨w.heap.size, 0, none⟩) 9 9) ∧ w' = w.alloc wordsO := by
  go_enter Try.func10, Try.ntmps10
  go_wp2
  go_ret
  exact ⟨rfl, rfl⟩
theorem words_wd (w : World) : Wd (w.alloc wordsO) w.heap.size 9 opW := fun j hj => by
  rcases (show j = 0 ∨ j = 1 ∨ j = 2 ∨ j = 3 ∨ j = 4 ∨ j = 5 ∨ j = 6 ∨ j = 7 ∨ j = 8 by omega) with rfl | rfl | rfl | rfl | rfl | rfl | rfl | rfl | rfl <;> simp [go_sem]

abbrev newO : Obj := .cells #[.int .u32 0, .int .i32 0, .int .u32 0, .slice none 0 0, .slice none 0 0, .slice none 0 0, .map none, .int .i64 0] 56
/-- New. -/
theorem new_any (w : World) : Calls Try.prog 8 #[] w fun x w' => x = .returned (.pointer (some ⟨w.heap.size, 0, none⟩)) ∧ w' = w.alloc newO := by
  go_enter Try.func8, Try.ntmps8
  go_wp2
  go_ret
  exact ⟨rfl, rfl⟩
/-- Made. -/
theorem made_any {w : World} {p : Nat} {x : Int} (h : w.cell? ⟨p, 7, none⟩ = some (.int .i64 x)) : Calls Try.prog 9 #[.pointer (some ⟨p, 0, none⟩)] w fun e w' => e = .returned (.int .i64 x) ∧ w' = w := by
  have hl := run_call_load (P := Try.prog) Try.func19 (by kernel_rfl) (by kernel_rfl) (by kernel_rfl) .i64 (by kernel_rfl) h
  have hp := cell_lt h
  go_enter Try.func9, Try.ntmps9
  go_wp2
  all_goals (try go_ret)
  all_goals (exact ⟨rfl, rfl⟩)
end Go.Proofs.Ytldogmifealkkaa
