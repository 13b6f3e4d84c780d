/- RingReads walked. -/
import Derived.Test.YtgnfmmoanmhgpaaB1
namespace Go.Proofs.Ytgnfmmoanmhgpaa
open Go.RowKit Go.Lib
set_option linter.unusedVariables false

theorem wf_u8 {n : Int} (h : (Lit.int .u8 n).wf = true) : 0 ≤ n ∧ n ≤ 255 := by
  have hmin : IntKind.u8.min = 0 := rfl
  have hmax : IntKind.u8.max = 255 := rfl
  simp only [Lit.wf, Bool.and_eq_true, decide_eq_true_eq] at h
  omega
theorem wf_u16 {n : Int} (h : (Lit.int .u16 n).wf = true) : 0 ≤ n ∧ n ≤ 65535 := by
  have hmin : IntKind.u16.min = 0 := rfl
  have hmax : IntKind.u16.max = 65535 := rfl
  simp only [Lit.wf, Bool.and_eq_true, decide_eq_true_eq] at h
  omega
theorem rw_nextv {w0 w : World} {p k m : Nat} {E : Nat → En} (h : RW w0 w p k m E) {v : Int} (hv : v = (m : Int)) : Calls Try.prog 9 #[.pointer (some ⟨p, 0, none⟩)] w fun e w' => e = .returned (.int .i64 v) ∧ w' = w := by
  subst hv
  exact rw_next h
/-- What is put: nothing but the clock. -/
def reE (s : Nat) : En := ⟨s, s, pc0⟩

set_option maxRecDepth 100000 in
set_option maxHeartbeats 400000 in
theorem reads_walk (n many : Int) (hn : 0 ≤ n ∧ n ≤ 255) (hm : 0 ≤ many ∧ many ≤ 65535) (w : World) :
    Calls Try.prog 5 #[.int .u8 n, .int .u16 many] w fun e w' => e = .returned (.bool true) ∧ Gr w w' := by
  have AW := Lib.hid (awake_any w)
  obtain ⟨k, rfl⟩ := Int.eq_ofNat_of_zero_le hn.1
  obtain ⟨r, hr⟩ : ∃ r, many % 500 = r := ⟨_, rfl⟩
  have b1 : 0 ≤ r ∧ r ≤ 499 := by omega
  obtain ⟨T, rfl⟩ := Int.eq_ofNat_of_zero_le b1.1
  have hr' : many.tmod 500 = T := by rw [Int.tmod_eq_emod_of_nonneg hm.1]; exact hr
  have w1' : wrap64 (k : Int) = k := by unfold wrap64; omega
  have w2' : wrap64 many = many := by unfold wrap64; omega
  have bT : T ≤ 499 := by omega
  have CNW := fun w1 (g : Gr w w1) => rw_new g (k : Int) k (by omega) reE
  have CNH := Lib.hid CNW
  clear hn hm b1 CNW
  go_enter Try.func5, Try.ntmps5
  go_wp2_with fail
  refine AW.out.mono ?_
  rintro e w1 ⟨rfl, g1⟩
  have CN := Lib.hid (CNH.out w1 g1)
  clear g1 AW CNH
  go_wp2_with fail
  refine CN.out.mono ?_
  rintro e w2 ⟨p, rfl, h2⟩
  have H2 := Lib.hid h2
  clear h2 CN
  go_wp2_with fail
  clear hr hr' w1' w2'
  go_loopg [7] T (fun kx s7 wr => ∃ i : Nat, s7 = .int .i64 (i : Int) ∧ i ≤ T ∧ T - i ≤ kx ∧ Aside (RW w wr p k i reE))
  case atStart => exact ⟨0, rfl, by omega, by omega, H2.out⟩
  case round =>
    clear H2
    obtain ⟨i, rfl, hi, hix, D⟩ := hrel
    by_cases hlt : i < T
    · have d0 : decide ((i : Int) < (T : Int)) = true := by simp; omega
      have d1 : decide (i < T) = true := by simp; omega
      have C1 := Lib.hid (rw_next D.out)
      have C2 := Lib.hid (rw_put D.out (by omega) (c := (i : Int)) (x := pc0) rfl (v := .agg #[.int .i64 0, .int .i64 0, .int .i64 0, .int .i64 0, .int .i64 0, .int .i64 0, .int .i64 0, .bool false]) rfl)
      clear D
      go_wp2_with fail
      refine C1.out.mono ?_
      rintro e w3 ⟨rfl, hw⟩
      obtain rfl := hw.symm
      clear hw
      go_wp2_with fail
      refine C2.out.mono ?_
      rintro e w3 ⟨rfl, h3⟩
      have H3 := Lib.hid h3
      have C3 := Lib.hid (rw_nextv h3 (v := (i : Int) + 1) (by omega))
      clear h3 C1 C2
      go_wp2_with fail
      refine C3.out.mono ?_
      rintro e w4 ⟨rfl, hw⟩
      obtain rfl := hw.symm
      clear hw C3
      go_wp2_with fail
      go_roundg (T - (i + 1))
      case measure => omega
      case rel => exact ⟨i + 1, by go_num, by omega, by omega, H3.out⟩
    · obtain rfl : T = i := by omega
      have d0 : decide ((T : Int) < (T : Int)) = false := by simp
      have C1 := Lib.hid (rw_next D.out)
      have C2 := Lib.hid (rw_since0 D.out (by omega) (T : Int) reE (by omega))
      have HD := Lib.hid D.out
      clear D
      go_wp2_with fail
      refine C1.out.mono ?_
      rintro e w3 ⟨rfl, hw⟩
      obtain rfl := hw.symm
      clear hw C1
      go_wp2_with fail
      refine C2.out.mono ?_
      rintro e w4 ⟨a, c, rfl, g4, -, -⟩
      have G4 := Lib.hid (HD.out.gr.trans g4)
      clear C2 HD g4
      go_wp2
      go_ret
      exact ⟨rfl, G4.out⟩
end Go.Proofs.Ytgnfmmoanmhgpaa
