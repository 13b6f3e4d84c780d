/- Contracts: what Add, Sub and Mul refuse. -/
import Derived.Test.YtkmapegglgcfnaaR6
namespace Go.Proofs.Ytkmapegglgcfnaa
open Go.RowKit
set_option linter.unusedVariables false

set_option maxHeartbeats 400000 in
theorem sum_refused (aN aD bN bD s : Int) (w : World) (h0 : -9223372036854775808 ≤ aN) (h1 : aN ≤ 9223372036854775807) (h2 : -9223372036854775808 ≤ aD) (h3 : aD ≤ 9223372036854775807) (h4 : -9223372036854775808 ≤ bN) (h5 : bN ≤ 9223372036854775807) (h6 : -9223372036854775808 ≤ bD) (h7 : bD ≤ 9223372036854775807) (hm : ¬ (MayR aN aD ∧ MayR bN bD)) :
    Calls Try.prog 55 #[.agg #[.int .i64 aN, .int .i64 aD], .agg #[.int .i64 bN, .int .i64 bD], .int .i64 s] w fun e w' => e = .returned (.tuple #[.agg #[.int .i64 0, .int .i64 0], .int .i64 2]) ∧ Grown w w' := by
  have HM := Lib.hid hm
  clear hm
  by_cases ma : MayR aN aD
  · have MA := Lib.hid ma
    clear ma
    go_enter Try.func55, Try.ntmps55
    go_wp2_with fail
    refine (may_yes aN aD _ h0 h1 h2 h3 MA.out).mono ?_
    rintro e w1 ⟨rfl, k1⟩
    have bx := (boxes_new aN aD bN bD w).keep k1
    have cb0 := bx.b0
    have cb1 := bx.b1
    have BX := Lib.hid bx
    clear bx k1
    go_wp2_with fail
    refine (may_no bN bD _ h4 h5 h6 h7 (fun mb => HM.out ⟨MA.out, mb⟩)).mono ?_
    rintro e w2 ⟨rfl, k2⟩
    have bx := BX.out.keep k2
    have r0 := bx.r0
    have r1 := bx.r1
    have f0 := bx.f0
    have f1 := bx.f1
    have gr := bx.gr
    clear bx BX k2 cb0 cb1
    go_wp2
    exact bodyPost_ret (v := .tuple #[.agg #[.int .i64 0, .int .i64 0], .int .i64 2]) (by simp [results, Try.results55, go_sem, r0, r1]) rfl ⟨rfl, (gr.setCell (by simp; omega) _).setCell (by simp; omega) _⟩
  · have MA := Lib.hid ma
    clear ma
    go_enter Try.func55, Try.ntmps55
    go_wp2_with fail
    refine (may_no aN aD _ h0 h1 h2 h3 MA.out).mono ?_
    rintro e w1 ⟨rfl, k1⟩
    have bx := (boxes_new aN aD bN bD w).keep k1
    have r0 := bx.r0
    have r1 := bx.r1
    have f0 := bx.f0
    have f1 := bx.f1
    have gr := bx.gr
    clear bx k1
    go_wp2
    exact bodyPost_ret (v := .tuple #[.agg #[.int .i64 0, .int .i64 0], .int .i64 2]) (by simp [results, Try.results55, go_sem, r0, r1]) rfl ⟨rfl, (gr.setCell (by simp; omega) _).setCell (by simp; omega) _⟩

set_option maxHeartbeats 400000 in
theorem mul_refused (aN aD bN bD : Int) (w : World) (h0 : -9223372036854775808 ≤ aN) (h1 : aN ≤ 9223372036854775807) (h2 : -9223372036854775808 ≤ aD) (h3 : aD ≤ 9223372036854775807) (h4 : -9223372036854775808 ≤ bN) (h5 : bN ≤ 9223372036854775807) (h6 : -9223372036854775808 ≤ bD) (h7 : bD ≤ 9223372036854775807) (hm : ¬ (MayR aN aD ∧ MayR bN bD)) :
    Calls Try.prog 34 #[.agg #[.int .i64 aN, .int .i64 aD], .agg #[.int .i64 bN, .int .i64 bD]] w fun e w' => e = .returned (.tuple #[.agg #[.int .i64 0, .int .i64 0], .int .i64 2]) ∧ Grown w w' := by
  have HM := Lib.hid hm
  clear hm
  by_cases ma : MayR aN aD
  · have MA := Lib.hid ma
    clear ma
    go_enter Try.func34, Try.ntmps34
    go_wp2_with fail
    refine (may_yes aN aD _ h0 h1 h2 h3 MA.out).mono ?_
    rintro e w1 ⟨rfl, k1⟩
    have bx := (boxes_new aN aD bN bD w).keep k1
    have cb0 := bx.b0
    have cb1 := bx.b1
    have BX := Lib.hid bx
    clear bx k1
    go_wp2_with fail
    refine (may_no bN bD _ h4 h5 h6 h7 (fun mb => HM.out ⟨MA.out, mb⟩)).mono ?_
    rintro e w2 ⟨rfl, k2⟩
    have bx := BX.out.keep k2
    have r0 := bx.r0
    have r1 := bx.r1
    have f0 := bx.f0
    have f1 := bx.f1
    have gr := bx.gr
    clear bx BX k2 cb0 cb1
    go_wp2
    exact bodyPost_ret (v := .tuple #[.agg #[.int .i64 0, .int .i64 0], .int .i64 2]) (by simp [results, Try.results34, go_sem, r0, r1]) rfl ⟨rfl, (gr.setCell (by simp; omega) _).setCell (by simp; omega) _⟩
  · have MA := Lib.hid ma
    clear ma
    go_enter Try.func34, Try.ntmps34
    go_wp2_with fail
    refine (may_no aN aD _ h0 h1 h2 h3 MA.out).mono ?_
    rintro e w1 ⟨rfl, k1⟩
    have bx := (boxes_new aN aD bN bD w).keep k1
    have r0 := bx.r0
    have r1 := bx.r1
    have f0 := bx.f0
    have f1 := bx.f1
    have gr := bx.gr
    clear bx k1
    go_wp2
    exact bodyPost_ret (v := .tuple #[.agg #[.int .i64 0, .int .i64 0], .int .i64 2]) (by simp [results, Try.results34, go_sem, r0, r1]) rfl ⟨rfl, (gr.setCell (by simp; omega) _).setCell (by simp; omega) _⟩

set_option maxHeartbeats 400000 in
theorem add_refused (aN aD bN bD : Int) (w : World) (h0 : -9223372036854775808 ≤ aN) (h1 : aN ≤ 9223372036854775807) (h2 : -9223372036854775808 ≤ aD) (h3 : aD ≤ 9223372036854775807) (h4 : -9223372036854775808 ≤ bN) (h5 : bN ≤ 9223372036854775807) (h6 : -9223372036854775808 ≤ bD) (h7 : bD ≤ 9223372036854775807) (hm : ¬ (MayR aN aD ∧ MayR bN bD)) :
    Calls Try.prog 32 #[.agg #[.int .i64 aN, .int .i64 aD], .agg #[.int .i64 bN, .int .i64 bD]] w fun e w' => e = .returned (.tuple #[.agg #[.int .i64 0, .int .i64 0], .int .i64 2]) ∧ Grown w w' := by
  have HM := Lib.hid hm
  clear hm
  go_enter Try.func32, Try.ntmps32
  go_wp2_with fail
  refine (sum_refused aN aD bN bD 1 _ h0 h1 h2 h3 h4 h5 h6 h7 HM.out).mono ?_
  rintro e w1 ⟨rfl, k1⟩
  have bx := (boxes_new aN aD bN bD w).keep k1
  have r0 := bx.r0
  have r1 := bx.r1
  have f0 := bx.f0
  have f1 := bx.f1
  have gr := bx.gr
  clear bx k1
  go_wp2
  exact bodyPost_ret (v := .tuple #[.agg #[.int .i64 0, .int .i64 0], .int .i64 2]) (by simp [results, Try.results32, go_sem, r0, r1]) rfl ⟨rfl, (gr.setCell (by simp; omega) _).setCell (by simp; omega) _⟩

set_option maxHeartbeats 400000 in
theorem sub_refused (aN aD bN bD : Int) (w : World) (h0 : -9223372036854775808 ≤ aN) (h1 : aN ≤ 9223372036854775807) (h2 : -9223372036854775808 ≤ aD) (h3 : aD ≤ 9223372036854775807) (h4 : -9223372036854775808 ≤ bN) (h5 : bN ≤ 9223372036854775807) (h6 : -9223372036854775808 ≤ bD) (h7 : bD ≤ 9223372036854775807) (hm : ¬ (MayR aN aD ∧ MayR bN bD)) :
    Calls Try.prog 33 #[.agg #[.int .i64 aN, .int .i64 aD], .agg #[.int .i64 bN, .int .i64 bD]] w fun e w' => e = .returned (.tuple #[.agg #[.int .i64 0, .int .i64 0], .int .i64 2]) ∧ Grown w w' := by
  have HM := Lib.hid hm
  clear hm
  go_enter Try.func33, Try.ntmps33
  go_wp2_with fail
  refine (sum_refused aN aD bN bD (-1) _ h0 h1 h2 h3 h4 h5 h6 h7 HM.out).mono ?_
  rintro e w1 ⟨rfl, k1⟩
  have bx := (boxes_new aN aD bN bD w).keep k1
  have r0 := bx.r0
  have r1 := bx.r1
  have f0 := bx.f0
  have f1 := bx.f1
  have gr := bx.gr
  clear bx k1
  go_wp2
  exact bodyPost_ret (v := .tuple #[.agg #[.int .i64 0, .int .i64 0], .int .i64 2]) (by simp [results, Try.results33, go_sem, r0, r1]) rfl ⟨rfl, (gr.setCell (by simp; omega) _).setCell (by simp; omega) _⟩

end Go.Proofs.Ytkmapegglgcfnaa
