/- The law HeapDrops where nothing came in; all of it. -/
import Derived.Test.YtfbgjlfepnbcgaaV6
namespace Go.Proofs.Ytfbgjlfepnbcgaa
open Go.RowKit Go.Lib
set_option linter.unusedVariables false

set_option maxRecDepth 100000 in
set_option maxHeartbeats 2000000 in
theorem drops_none (a0 : Option Addr) (c0 : Nat) (a1 : Option Addr) (n1 c1 : Nat) (w : World) (h3 : n1 ≤ 200) :
    Calls Try.prog 7 #[.slice a0 (0 : Nat) c0, .slice a1 n1 c1] w fun e w' => e = .returned (.bool true) ∧ Below w.heap.size w w' := by
  have CA := Lib.hid (awake_true w)
  have d2 : decide ((n1 : Int) > 200) = false := by simp; omega
  rcases Nat.eq_zero_or_pos n1 with rfl | hn
  · go_enter Try.func7, Try.ntmps7
    go_wp2_with fail
    refine CA.out.mono ?_
    rintro e w1 ⟨rfl, B1⟩
    have C := Lib.hid (hl_new B1 2)
    clear CA B1
    go_wp2_with fail
    refine C.out.mono ?_
    rintro e w2 ⟨rfl, H2, g2⟩
    have A2 := Lib.hid (dr_start H2 0 (fun _ => 0))
    have mk : (Instr.makeSlice 48 (.int .i64 0) (.int .i64 0)).run Try.prog w2 = .ok (.slice (some ⟨w2.heap.size, 0, none⟩) 0 0) (w2.alloc (.cells (madeCells #[.bool false] 0) 4)) := make4 0 (by omega) w2
    clear C H2 g2
    generalize w1.heap.size = p at *
    go_wp2_with fail
    clear mk
    refine wp_loop_rounds 1 ?_
    rw [rounds_succ]
    go_wp2_with fail
    refine wp_loop_rounds 1 ?_
    rw [rounds_succ]
    go_wp2_with fail
    refine wp_loop_rounds 1 ?_
    rw [rounds_succ]
    go_wp2_with fail
    refine wp_loop_rounds 1 ?_
    rw [rounds_succ]
    have C := Lib.hid (hl_pop_none A2.out.hl)
    go_wp2_with fail
    refine C.out.mono ?_
    rintro e w6 ⟨rfl, H6, v6⟩
    have HH := Lib.hid (H6.gr ((Ke.refl _ _).alloc (.cells #[.int .i64 0, .int .i64 0, .int .i64 0, .int .i64 0] 33)))
    clear C H6 v6
    go_wp2
    go_ret
    exact ⟨rfl, HH.out.below⟩
  · have d4 : decide ((0 : Int) < (n1 : Int)) = true := by simp; omega
    have d5 : 0 < n1 := hn
    go_enter Try.func7, Try.ntmps7
    go_wp2_with fail
    refine CA.out.mono ?_
    rintro e w1 ⟨rfl, B1⟩
    have C := Lib.hid (hl_new B1 2)
    clear CA B1
    go_wp2_with fail
    refine C.out.mono ?_
    rintro e w2 ⟨rfl, H2, g2⟩
    have A2 := Lib.hid (dr_start H2 0 (fun _ => 0))
    have mk : (Instr.makeSlice 48 (.int .i64 0) (.int .i64 0)).run Try.prog w2 = .ok (.slice (some ⟨w2.heap.size, 0, none⟩) 0 0) (w2.alloc (.cells (madeCells #[.bool false] 0) 4)) := make4 0 (by omega) w2
    clear C H2 g2
    generalize w1.heap.size = p at *
    go_wp2_with fail
    clear mk
    refine wp_loop_rounds 1 ?_
    rw [rounds_succ]
    go_wp2_with fail
    refine wp_loop_rounds 1 ?_
    rw [rounds_succ]
    go_wp2_with fail
    refine wp_loop_rounds 1 ?_
    rw [rounds_succ]
    go_wp2_with fail
    refine wp_loop_rounds 1 ?_
    rw [rounds_succ]
    have C := Lib.hid (hl_pop_none A2.out.hl)
    go_wp2_with fail
    refine C.out.mono ?_
    rintro e w6 ⟨rfl, H6, v6⟩
    have HH := Lib.hid (H6.gr ((Ke.refl _ _).alloc (.cells #[.int .i64 0, .int .i64 0, .int .i64 0, .int .i64 0] 33)))
    clear C H6 v6
    go_wp2
    go_ret
    exact ⟨rfl, HH.out.below⟩

theorem drops_all (a0 : Option Addr) (n0 c0 : Nat) (a1 : Option Addr) (n1 c1 : Nat) (z0 z1 : Nat → Int) (w : World) (q0 : RowIn .i16 w a0 n0 z0) (q1 : RowIn .u8 w a1 n1 z1) :
    Calls Try.prog 7 #[.slice a0 n0 c0, .slice a1 n1 c1] w fun e w' => e = .returned (.bool true) ∧ Below w.heap.size w w' := by
  by_cases h : 200 < n0 ∨ 200 < n1
  · exact drops_big a0 n0 c0 a1 n1 c1 w h
  · rcases Nat.eq_zero_or_pos n0 with rfl | hp
    · exact drops_none a0 c0 a1 n1 c1 w (by omega)
    · rcases q0 with e | ⟨b0, o0, rfl, hb0, r0⟩
      · omega
      · exact drops_walk b0 o0 n0 c0 a1 n1 c1 z0 z1 w (by omega) (by omega) hp hb0 (fun i hi => ⟨(r0 i hi).1, wf_i16 (r0 i hi).2⟩) q1
end Go.Proofs.Ytfbgjlfepnbcgaa
