/- awake. -/
import Derived.Test.YtldogmifealkkaaA7
namespace Go.Proofs.Ytldogmifealkkaa
open Go.RowKit Go.Lib Go.Maps
set_option linter.unusedVariables false

theorem wf_u8 {n : Int} (h : (Lit.int .u8 n).wf = true) : 0 ≤ n ∧ n ≤ 255 := by
  have hmin : IntKind.u8.min = 0 := rfl
  have hmax : IntKind.u8.max = 255 := rfl
  simp only [Lit.wf, Bool.and_eq_true, decide_eq_true_eq] at h
  omega
theorem Ke.after {w a b : World} {F : Nat → Prop} (h : Gr w a) (k : Ke F a b) (hF : ∀ j, F j → w.heap.size ≤ j) : Gr w b :=
  ⟨k.os.trans h.os, k.output.trans h.output, Nat.le_trans h.size k.size, fun j hj hn => (k.block j (Nat.lt_of_lt_of_le hj h.size) (fun q => by have := hF _ q; omega)).trans (h.block j hj hn)⟩
theorem op8 : atW opW 9 8 sNone = ⟨#[116, 105, 99, 107]⟩ := by decide
theorem mo4 : atW moW 5 4 sNone = ⟨#[116, 119, 105, 110]⟩ := by decide
theorem er8 : atW erW 15 8 sErr = ⟨#[119, 101, 105, 103, 104, 116]⟩ := by decide

set_option maxRecDepth 100000 in
set_option maxHeartbeats 1600000 in
/-- awake. -/
theorem awake_any (w : World) : Calls Try.prog 7 #[] w fun e w' => e = .returned (.bool true) ∧ Gr w w' := by
  have G0 := Lib.hid ((Ke.refl (fun _ => False) w).alloc newO)
  have N0 := Lib.hid (NM.new w)
  go_enter Try.func7, Try.ntmps7
  go_wp2_with fail
  refine (new_any w).mono ?_
  rintro e w1 ⟨rfl, rfl⟩
  generalize w.alloc newO = w1 at *
  obtain ⟨p, hp⟩ : ∃ p, w.heap.size = p := ⟨_, rfl⟩
  rw [hp] at N0
  simp only [hp]
  have HP := Lib.hid hp
  clear hp
  go_wp2_with fail
  refine (made0 N0.out).mono ?_
  rintro e w2 ⟨rfl, rfl⟩
  go_wp2_with fail
  refine (op_any N0.out 8).mono ?_
  rw [op8]
  rintro e w3 ⟨rfl, D⟩
  have D3 := Lib.hid D
  clear D
  go_wp2_with fail
  refine (made1 D3.out.2).mono ?_
  rintro e w4 ⟨rfl, rfl⟩
  go_wp2_with fail
  refine (mode_any D3.out.2 4).mono ?_
  rw [mo4]
  rintro e w5 ⟨rfl, D⟩
  have D5 := Lib.hid D
  clear D
  go_wp2_with fail
  refine (err_any D5.out.2 8).mono ?_
  rw [er8]
  rintro e w6 ⟨rfl, D⟩
  have D6 := Lib.hid D
  clear D
  go_wp2
  go_ret
  refine ⟨rfl, G0.out.after ((D3.out.1.trans D5.out.1).trans D6.out.1) (fun j hj => ?_)⟩
  have := HP.out
  omega
end Go.Proofs.Ytldogmifealkkaa
