/- The law SlotsPlay walked where no deed came in, or too many. -/
import Derived.Test.YtfhnjknlehecgaaDoorP5
namespace Go.Proofs.YtfhnjknlehecgaaDoor
open Go.RowKit Go.Lib Go.Maps Go.Sort
set_option linter.unusedVariables false

set_option maxRecDepth 100000 in
set_option maxHeartbeats 8000000 in
theorem play_big (na : Nat) (a : Option Addr) (n cap : Nat) (w : World) (hn : 200 < n) (hT : Tab w) :
    Calls Tryd.prog 3 #[.int .u8 na, .slice a n cap] w fun e w' => e = .returned (.bool true) ∧ Below w.heap.size w w' := by
  have C7 := Lib.hid (awake_true w hT)
  clear hT
  have hd : decide ((n : Int) > 200) = true := by simp; omega
  go_enter Tryd.func3, Tryd.ntmps3
  go_wp2_with fail
  refine C7.out.mono ?_
  rintro e w1 ⟨rfl, B1⟩
  have BB := Lib.hid B1
  clear C7 B1
  go_wp2
  go_ret
  exact ⟨rfl, BB.out⟩

set_option maxRecDepth 100000 in
set_option maxHeartbeats 8000000 in
theorem play_none (na : Nat) (ha : na < 256) (a : Option Addr) (cap : Nat) (w : World) (hT : Tab w) :
    Calls Tryd.prog 3 #[.int .u8 na, .slice a (0 : Nat) cap] w fun e w' => e = .returned (.bool true) ∧ Below w.heap.size w w' := by
  have T := Lib.hid hT
  have C7 := Lib.hid (awake_true w hT)
  clear hT
  obtain ⟨k, hk⟩ : ∃ k, k = na % 20 := ⟨_, rfl⟩
  have hk3 : k < 20 := by omega
  have d3 : (na : Int) % 20 = (k : Int) := by omega
  have d4 : (na : Int).tmod 20 = (k : Int) := by rw [Int.tmod_eq_emod_of_nonneg (by omega)]; exact d3
  have wa : IntKind.i64.wrap (na : Int) = (na : Int) := by rw [IntKind.wrap_i64]; omega
  clear hk
  go_enter Tryd.func3, Tryd.ntmps3
  go_wp2_with fail
  refine C7.out.mono ?_
  rintro e w1 ⟨rfl, B1⟩
  have BB := Lib.hid B1
  clear C7 B1
  have C := Lib.hid (st_new BB.out T.out (k : Int) k (by omega) (by rw [if_neg (by omega)]))
  go_wp2_with fail
  refine C.out.mono ?_
  rintro e w2 ⟨p, g, bm, rfl, hm⟩
  have PL := Lib.hid (Play.start hm)
  clear C hm BB
  have mk3 := make3 k k (Nat.le_refl _) (by omega) w2
  have mk4 := make4 k (by omega) (w2.alloc (.cells (Array.replicate k (.int .i64 0)) 3))
  rw [show (w2.alloc (.cells (Array.replicate k (.int .i64 0)) 3)).heap.size = w2.heap.size + 1 by simp] at mk4
  go_wp2_with fail
  refine wp_loop_rounds 1 ?_
  rw [rounds_succ]
  go_wp2_with fail
  go_ret
  exact ⟨rfl, PL.out.st.below⟩
end Go.Proofs.YtfhnjknlehecgaaDoor
