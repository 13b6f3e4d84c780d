/- The law HeapPlays walked where no deed came in, or too many. -/
import Derived.Test.YtfbgjlfepnbcgaaC7
namespace Go.Proofs.Ytfbgjlfepnbcgaa
open Go.RowKit Go.Lib
set_option linter.unusedVariables false

set_option maxRecDepth 100000 in
set_option maxHeartbeats 2000000 in
theorem plays_big (k : Int) (a : Option Addr) (n c0 : Nat) (w : World) (h : 200 < n) : Calls Try.prog 3 #[.int .i64 k, .slice a n c0] w fun e w' => e = .returned (.bool true) ∧ Below w.heap.size w w' := by
  have CA := Lib.hid (awake_true w)
  have d1 : (n : Int) > 200 := by omega
  go_enter Try.func3, Try.ntmps3
  go_wp2_with fail
  refine CA.out.mono ?_
  rintro e w1 ⟨rfl, B1⟩
  have BB := Lib.hid B1
  clear CA B1
  go_wp2
  go_ret
  exact ⟨rfl, BB.out⟩

set_option maxRecDepth 100000 in
set_option maxHeartbeats 2000000 in
theorem plays_none (k : Int) (a : Option Addr) (c0 : Nat) (w : World) : Calls Try.prog 3 #[.int .i64 k, .slice a (0 : Nat) c0] w fun e w' => e = .returned (.bool true) ∧ Below w.heap.size w w' := by
  have CA := Lib.hid (awake_true w)
  go_enter Try.func3, Try.ntmps3
  go_wp2_with fail
  refine CA.out.mono ?_
  rintro e w1 ⟨rfl, B1⟩
  have C := Lib.hid (hl_new B1 k)
  clear CA B1
  go_wp2_with fail
  refine C.out.mono ?_
  rintro e w2 ⟨rfl, H2, g2⟩
  have BB := Lib.hid H2.below
  clear C H2 g2
  generalize w1.heap.size = p at *
  go_wp2_with fail
  refine wp_loop_rounds 1 ?_
  rw [rounds_succ]
  go_wp2_with fail
  go_ret
  exact ⟨rfl, BB.out⟩
end Go.Proofs.Ytfbgjlfepnbcgaa
