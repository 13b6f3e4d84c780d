/- One Names in a law; NamesTell, walked. -/
import Derived.Test.YtldogmifealkkaaB2
namespace Go.Proofs.Ytldogmifealkkaa
open Go.RowKit Go.Lib Go.Maps
set_option linter.unusedVariables false

structure N1 (w0 w : World) (p : Nat) (m : Bool) : Prop where
  n : NM w p (p + 1) m
  gr : Gr w0 w
  lo : w0.heap.size ≤ p
section
variable {w0 w w' : World} {p : Nat} {m : Bool}
theorem N1.gro (h : N1 w0 w p m) (g : Gr w w') : N1 w0 w' p m := ⟨h.n.keep g (fun _ q => q.elim), h.gr.trans g, h.lo⟩
theorem N1.step (h : N1 w0 w p m) (D : DoneP w w' p (p + 1)) : N1 w0 w' p true := ⟨D.2, h.gr.after D.1 (fun j q => by have := h.lo; omega), h.lo⟩
theorem n1_new {w0 w : World} (g : Gr w0 w) : N1 w0 (w.alloc newO) w.heap.size false := ⟨NM.new w, g.alloc _, g.size⟩
end
theorem toList_inj {a b : ByteArray} (h : a.toList = b.toList) : a = b := ba_ext (by rwa [ByteArray.toList_eq, ByteArray.toList_eq] at h)
/-- The number so far. -/
def nsf (x : ByteArray) (k : Nat) : Nat := if numW x ≤ k then numW x else 0
theorem nsf_zero (x : ByteArray) : nsf x 0 = 0 := by unfold nsf; split <;> omega
theorem nsf_end (x : ByteArray) : nsf x 8 = numW x := by unfold nsf; rw [if_pos (numW_le x)]
theorem nsf_yes {x : ByteArray} {k : Nat} (hk : k < 8) (h : opW (k + 1) = x) : nsf x (k + 1) = k + 1 := by
  have : numW x = k + 1 := by rw [← h]; exact numW_op (by omega) (by omega)
  unfold nsf
  rw [if_pos (by omega), this]
theorem nsf_no {x : ByteArray} {k : Nat} (h : ¬ opW (k + 1) = x) : nsf x (k + 1) = nsf x k := by
  have : ¬ numW x = k + 1 := fun q => h (by have := numW_pos (s := x) (by omega); rw [this, q])
  unfold nsf
  by_cases c : numW x ≤ k
  · rw [if_pos (by omega), if_pos c]
  · rw [if_neg (by omega), if_neg c]

abbrev moO : Obj := .cells #[.string ⟨#[]⟩, .string ⟨#[112, 102, 97, 105, 114]⟩, .string ⟨#[101, 97, 114, 108, 121]⟩, .string ⟨#[119, 114, 97, 112]⟩, .string ⟨#[116, 119, 105, 110]⟩] 9
theorem mo_wd (w : World) : Wd (w.alloc moO) w.heap.size 5 moW := fun j hj => by
  rcases (show j = 0 ∨ j = 1 ∨ j = 2 ∨ j = 3 ∨ j = 4 by omega) with rfl | rfl | rfl | rfl | rfl <;> simp [go_sem] <;> rfl
theorem wrap_fit {x : Int} (h : -9223372036854775808 ≤ x) (h2 : x ≤ 9223372036854775807) : IntKind.i64.wrap x = x := by
  simp [IntKind.wrap, IntKind.bits, IntKind.signed]
  omega

set_option maxRecDepth 100000 in
set_option maxHeartbeats 1600000 in
theorem tell_long (op : Int) (x : ByteArray) (times : Int) (hs : ¬ x.size ≤ 100) (w : World) :
    Calls Try.prog 3 #[.int .i64 op, .string x, .int .u8 times] w fun e w' => e = .returned (.bool true) ∧ Gr w w' := by
  have d0 : decide ((100 : Int) < (x.size : Int)) = true := by simp; omega
  have AW := Lib.hid (fun w => awake_any w)
  clear hs
  go_enter Try.func3, Try.ntmps3
  go_wp2_with fail
  refine (AW.out _).mono ?_
  rintro e w1 ⟨rfl, g1⟩
  have G1 := Lib.hid g1
  clear g1
  go_wp2
  go_ret
  exact ⟨rfl, G1.out⟩

set_option maxRecDepth 100000 in
set_option maxHeartbeats 4000000 in
theorem tell_walk (op : Int) (x : ByteArray) (times : Int) (hs : x.size ≤ 100) (ht : 0 ≤ times ∧ times ≤ 255) (w : World) :
    Calls Try.prog 3 #[.int .i64 op, .string x, .int .u8 times] w fun e w' => e = .returned (.bool true) ∧ Gr w w' := by
  have d0 : decide ((100 : Int) < (x.size : Int)) = false := by simp; omega
  have AW := Lib.hid (fun w => awake_any w)
  have HS : Hid (x.size ≤ maxLen) := Lib.hid (by unfold maxLen; omega)
  obtain ⟨wv, hwv⟩ : ∃ wv, atW opW 9 op sNone = wv := ⟨_, rfl⟩
  obtain ⟨mv, hmv⟩ : ∃ mv, atW moW 5 op sNone = mv := ⟨_, rfl⟩
  obtain ⟨ev, hev⟩ : ∃ ev, atW erW 15 op sErr = ev := ⟨_, rfl⟩
  have WV := Lib.hid hwv
  have MV := Lib.hid hmv
  have EV := Lib.hid hev
  have HT := Lib.hid ht
  clear hs hwv hmv hev ht
  go_enter Try.func3, Try.ntmps3
  go_wp2_with fail
  refine (AW.out _).mono ?_
  rintro e w1 ⟨rfl, g1⟩
  have G1 := Lib.hid g1
  clear g1
  go_wp2_with fail
  refine (new_any w1).mono ?_
  rintro e w2 ⟨rfl, rfl⟩
  have N0 := Lib.hid (n1_new G1.out)
  obtain ⟨p, hp⟩ : ∃ p, w1.heap.size = p := ⟨_, rfl⟩
  rw [hp] at N0 ⊢
  generalize w1.alloc newO = w2 at *
  clear hp G1
  go_wp2_with fail
  refine (made0 N0.out.n).mono ?_
  rintro e w3 ⟨rfl, rfl⟩
  go_wp2_with fail
  refine (words_any w3).mono ?_
  rintro e w4 ⟨rfl, rfl⟩
  have A4 : Hid (∃ B, w3.heap.size = B ∧ p < B ∧ Wd (w3.alloc wordsO) B 9 opW ∧ N1 w (w3.alloc wordsO) p false) := Lib.hid ⟨_, rfl, N0.out.n.2.1, words_wd w3, N0.out.gro ((Ke.refl _ w3).alloc _)⟩
  obtain ⟨B, hB, hpB, WB, H0⟩ := A4.out
  rw [hB]
  have HPB := Lib.hid hpB
  have H4 := Lib.hid H0
  have WD := Lib.hid WB
  clear A4 hB hpB WB H0 N0
  generalize w3.alloc wordsO = w4 at *
  go_upto_region 10 with fail
  go_cut [38] (fun s38 wx => s38 = .bool (decide (1 ≤ op ∧ op < 9)) ∧ wx = w4)
  case first =>
    by_cases c1 : 1 ≤ op
    · have e1 : decide (1 ≤ op) = true := by simp [c1]
      by_cases c2 : op < 9
      · have e2 : decide (op < 9) = true := by simp [c2]
        have e3 : decide (1 ≤ op ∧ op < 9) = true := by simp [c1, c2]
        go_wp2_with fail
        go_meet
        exact ⟨by rw [e3], rfl⟩
      · have e2 : decide (op < 9) = false := by simp; omega
        have e3 : decide (1 ≤ op ∧ op < 9) = false := by simp; omega
        go_wp2_with fail
        go_meet
        exact ⟨by rw [e3], rfl⟩
    · have e1 : decide (1 ≤ op) = false := by simp; omega
      have e3 : decide (1 ≤ op ∧ op < 9) = false := by simp; omega
      go_wp2_with fail
      go_meet
      exact ⟨by rw [e3], rfl⟩
  case rest =>
    obtain ⟨rfl, rfl⟩ := hcut
    go_upto_if 38 with fail
    go_cut [9] (fun s9 wx => s9 = .string wv ∧ wx = wc)
    case first =>
      by_cases c : 1 ≤ op ∧ op < 9
      · have e3 : decide (1 ≤ op ∧ op < 9) = true := by simp [c]
        obtain ⟨k, rfl⟩ := Int.eq_ofNat_of_zero_le (show 0 ≤ op by omega)
        have b0 : (0 : Int) ≤ (k : Int) ∧ (k : Int) < (9 : Int) := by omega
        have cw : wc.cell? ⟨B, k, none⟩ = some (.string wv) := by rw [← WV.out, atW_in (by omega)]; exact WD.out k (by omega)
        go_wp2_with fail
        go_meet
        exact ⟨rfl, rfl⟩
      · have e3 : decide (1 ≤ op ∧ op < 9) = false := by simp; omega
        have q : Hid ((⟨#[]⟩ : ByteArray) = wv) := Lib.hid (by
          rw [← WV.out]
          by_cases h : 0 ≤ op ∧ op < 9
          · obtain rfl : op = 0 := by omega
            decide
          · exact (atW_out h).symm)
        go_wp2_with fail
        go_meet
        exact ⟨by rw [q.out], rfl⟩
    case rest =>
      obtain ⟨rfl, rfl⟩ := hcut
      go_wp2_with fail
      have Z0 : Hid ((nsf x 0 : Nat) = 0) := Lib.hid (nsf_zero x)
      go_loopg [10, 11] 8 (fun kx s10 s11 wr => ∃ (k : Nat), s10 = .int .i64 ((nsf x k : Nat) : Int) ∧ s11 = .int .i64 ((k + 1 : Nat) : Int) ∧ k ≤ 8 ∧ 8 - k ≤ kx ∧ wr = wc)
      case atStart => exact ⟨0, by rw [Z0.out]; rfl, rfl, by omega, by omega, rfl⟩
      case round =>
        obtain ⟨k, rfl, rfl, hk, hkx, rfl⟩ := hrel
        by_cases hlt : k < 8
        · obtain ⟨nk, hnk⟩ : ∃ nk, nsf x k = nk := ⟨_, rfl⟩
          obtain ⟨k1, hk1⟩ : ∃ k1, k + 1 = k1 := ⟨_, rfl⟩
          obtain ⟨wd, hwd⟩ : ∃ wd, opW k1 = wd := ⟨_, rfl⟩
          have d0 : decide ((k1 : Int) < 9) = true := by simp; omega
          have d1 : (k1 : Int) < 9 := by omega
          have b0 : (0 : Int) ≤ (k1 : Int) ∧ (k1 : Int) < (9 : Int) := by omega
          have cw : wr.cell? ⟨B, k1, none⟩ = some (.string wd) := by rw [← hwd]; exact WD.out k1 (by omega)
          have K1 := Lib.hid hk1
          have HNK := Lib.hid hnk
          rw [hk1, hnk]
          by_cases e : wd = x
          · have e0 : (wd.toList == x.toList) = true := by simp [e]
            have Y : Hid (nsf x (k + 1) = k + 1) := Lib.hid (nsf_yes hlt (by rw [hk1, hwd]; exact e))
            clear e hk1 hnk hwd
            go_wp2_with fail
            go_roundg (8 - (k + 1))
            case measure => omega
            case rel => exact ⟨k + 1, by rw [Y.out, K1.out], by have := K1.out; subst this; go_num, by omega, by omega, rfl⟩
          · have e0 : (wd.toList == x.toList) = false := beq_false_of_ne (fun q => e (toList_inj q))
            have Y : Hid (nsf x (k + 1) = nsf x k) := Lib.hid (nsf_no (by rw [hk1, hwd]; exact e))
            clear e hk1 hnk hwd
            go_wp2_with fail
            go_roundg (8 - (k + 1))
            case measure => omega
            case rel => exact ⟨k + 1, by rw [Y.out, HNK.out], by have := K1.out; subst this; go_num, by omega, by omega, rfl⟩
        · obtain rfl : k = 8 := by omega
          obtain ⟨nw, hnw⟩ : ∃ nw, numW x = nw := ⟨_, rfl⟩
          have NW := Lib.hid hnw
          rw [nsf_end x, hnw]
          clear hnw Z0
          go_upto_region 20 with fail
          have A6 : Hid (∃ M, wr.heap.size = M ∧ p < M ∧ Wd (wr.alloc moO) M 5 moW ∧ N1 w (wr.alloc moO) p false) := Lib.hid ⟨_, rfl, H4.out.n.2.1, mo_wd wr, H4.out.gro ((Ke.refl _ wr).alloc _)⟩
          obtain ⟨M, hM, hpM, WM, H0⟩ := A6.out
          rw [hM]
          have HPM := Lib.hid hpM
          have H6 := Lib.hid H0
          have WMM := Lib.hid WM
          clear A6 hM hpM WM H0 H4 WD HPB
          change Code.wp _ _ _ _ (wr.alloc moO)
          generalize wr.alloc moO = w6 at *
          go_cut [64] (fun s64 wx => s64 = .bool (decide (1 ≤ op ∧ op < 5)) ∧ wx = w6)
          case first =>
            by_cases c1 : 1 ≤ op
            · have e1 : decide (1 ≤ op) = true := by simp [c1]
              by_cases c2 : op < 5
              · have e2 : decide (op < 5) = true := by simp [c2]
                have e3 : decide (1 ≤ op ∧ op < 5) = true := by simp [c1, c2]
                go_wp2_with fail
                go_meet
                exact ⟨by rw [e3], rfl⟩
              · have e2 : decide (op < 5) = false := by simp; omega
                have e3 : decide (1 ≤ op ∧ op < 5) = false := by simp; omega
                go_wp2_with fail
                go_meet
                exact ⟨by rw [e3], rfl⟩
            · have e1 : decide (1 ≤ op) = false := by simp; omega
              have e3 : decide (1 ≤ op ∧ op < 5) = false := by simp; omega
              go_wp2_with fail
              go_meet
              exact ⟨by rw [e3], rfl⟩
          case rest =>
            obtain ⟨rfl, rfl⟩ := hcut
            go_upto_if 64 with fail
            go_cut [13] (fun s13 wx => s13 = .string mv ∧ wx = wc)
            case first =>
              by_cases c : 1 ≤ op ∧ op < 5
              · have e3 : decide (1 ≤ op ∧ op < 5) = true := by simp [c]
                obtain ⟨k, rfl⟩ := Int.eq_ofNat_of_zero_le (show 0 ≤ op by omega)
                have b0 : (0 : Int) ≤ (k : Int) ∧ (k : Int) < (5 : Int) := by omega
                have cw : wc.cell? ⟨M, k, none⟩ = some (.string mv) := by rw [← MV.out, atW_in (by omega)]; exact WMM.out k (by omega)
                go_wp2_with fail
                go_meet
                exact ⟨rfl, rfl⟩
              · have e3 : decide (1 ≤ op ∧ op < 5) = false := by simp; omega
                have q : Hid ((⟨#[]⟩ : ByteArray) = mv) := Lib.hid (by
                  rw [← MV.out]
                  by_cases h : 0 ≤ op ∧ op < 5
                  · obtain rfl : op = 0 := by omega
                    decide
                  · exact (atW_out h).symm)
                go_wp2_with fail
                go_meet
                exact ⟨by rw [q.out], rfl⟩
            case rest =>
              obtain ⟨rfl, rfl⟩ := hcut
              obtain ⟨r, hr⟩ : ∃ r, times % 8 = r := ⟨_, rfl⟩
              have hr' : times.tmod 8 = r := by rw [Int.tmod_eq_emod_of_nonneg HT.out.1]; exact hr
              have br : 0 ≤ r ∧ r ≤ 7 := by omega
              obtain ⟨rn, rfl⟩ := Int.eq_ofNat_of_zero_le br.1
              have wrp : IntKind.i64.wrap (rn : Int) = rn := wrap_fit (by omega) (by omega)
              have BR := Lib.hid br
              clear br
              go_wp2_with fail
              obtain ⟨okb, ho⟩ : ∃ okb, decide (0 < nw) = okb := ⟨_, rfl⟩
              have ho' : decide ((0 : Int) < (nw : Int)) = okb := by rw [← ho]; simp
              have OK := Lib.hid ho
              clear ho
              go_loopg [14] (rn + 1) (fun kx s14 wr => ∃ (k : Nat) (m : Bool), s14 = .int .i64 (k : Int) ∧ k ≤ rn + 1 ∧ rn + 1 - k ≤ kx ∧ Aside (N1 w wr p m))
              case atStart => exact ⟨0, false, rfl, by omega, by omega, H6.out⟩
              case round =>
                obtain ⟨k, m, rfl, hk, hkx, D⟩ := hrel
                clear H6 WMM HPM
                by_cases hlt : k ≤ rn
                · have d1 : decide ((k : Int) ≤ (rn : Int)) = true := by simp; omega
                  have d2 : decide (k ≤ rn) = true := by simp; omega
                  have HD := Lib.hid D
                  have HK := Lib.hid hk
                  clear D hk
                  go_wp2_with fail
                  refine (number_any HD.out.out.n x HS.out).mono ?_
                  rw [NW.out, OK.out]
                  rintro e x1 ⟨rfl, D⟩
                  have D1 := Lib.hid (HD.out.out.step D)
                  clear D HD
                  go_wp2_with fail
                  refine (op_any D1.out.n op).mono ?_
                  rw [WV.out]
                  rintro e x2 ⟨rfl, D⟩
                  have D2 := Lib.hid (D1.out.step D)
                  clear D D1
                  go_wp2_with fail
                  refine (mode_any D2.out.n op).mono ?_
                  rw [MV.out]
                  rintro e x3 ⟨rfl, D⟩
                  have D3 := Lib.hid (D2.out.step D)
                  clear D D2
                  go_wp2_with fail
                  refine (err_any D3.out.n op).mono ?_
                  rw [EV.out]
                  rintro e x4 ⟨rfl, D⟩
                  have D4 := Lib.hid (D3.out.step D)
                  clear D D3
                  go_wp2_with fail
                  refine (error_any op x4).mono ?_
                  rw [EV.out]
                  rintro e x5 ⟨rfl, hx5⟩
                  obtain rfl := hx5.symm
                  have ok1 := OK.out
                  clear ho' OK
                  cases okb with
                  | true =>
                    go_wp2_with fail
                    refine (made1 D4.out.n).mono ?_
                    rintro e x6 ⟨rfl, hx6⟩
                    obtain rfl := hx6.symm
                    go_wp2_with fail
                    go_roundg (rn + 1 - (k + 1))
                    case measure => omega
                    case rel => exact ⟨k + 1, true, by go_num, by have := HK.out; omega, by omega, D4.out⟩
                  | false =>
                    go_wp2_with fail
                    refine (made1 D4.out.n).mono ?_
                    rintro e x6 ⟨rfl, hx6⟩
                    obtain rfl := hx6.symm
                    go_wp2_with fail
                    go_roundg (rn + 1 - (k + 1))
                    case measure => omega
                    case rel => exact ⟨k + 1, true, by go_num, by have := HK.out; omega, by omega, D4.out⟩
                · have d1 : decide ((k : Int) ≤ (rn : Int)) = false := by simp; omega
                  have d2 : decide (k ≤ rn) = false := by simp; omega
                  have d3 : ¬ k ≤ rn := hlt
                  have HD := Lib.hid D.out.gr
                  clear D
                  go_wp2_with fail
                  go_ret
                  exact ⟨rfl, HD.out⟩
end Go.Proofs.Ytldogmifealkkaa
