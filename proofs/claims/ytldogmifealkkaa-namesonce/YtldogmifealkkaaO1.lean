/- NamesOnce, walked. -/
import Derived.Test.YtldogmifealkkaaT1
namespace Go.Proofs.Ytldogmifealkkaa
open Go.RowKit Go.Lib Go.Maps
set_option linter.unusedVariables false

theorem info9s : (Try.prog.info? 9).map (fun i => (i.zero, i.size, i.bytes)) = some (some (.string ⟨#[]⟩), 1, 16) := by kernel_rfl
/-- The answers so far. -/
def gotF (wd : ByteArray) (k j : Nat) : Value := .string (if j < k then wd else ⟨#[]⟩)
structure ON (w0 w : World) (p G n k : Nat) (wd : ByteArray) (m : Bool) : Prop where
  nm : NM w p (G + 1) m
  gr : Gr w0 w
  lo : w0.heap.size ≤ p
  row : w.rowIs G 9 n (gotF wd k)
  pg : p < G
section
variable {w0 w w' : World} {p G n k : Nat} {wd : ByteArray} {m : Bool}
theorem ON.gro (h : ON w0 w p G n k wd m) (g : Gr w w') : ON w0 w' p G n k wd m := ⟨h.nm.keep g (fun _ q => q.elim), h.gr.trans g, h.lo, h.row.of_block (g.block G h.row.lt (fun q => q)), h.pg⟩
theorem ON.step (h : ON w0 w p G n k wd m) (D : DoneP w w' p (G + 1)) : ON w0 w' p G n k wd true := ⟨D.2, h.gr.after D.1 (fun j q => by have := h.lo; omega), h.lo, h.row.of_block (D.1.block G h.row.lt (fun q => by have := h.pg; omega)), h.pg⟩
theorem ON.set (h : ON w0 w p G n k wd m) (hk : k < n) : ON w0 (w.setCell ⟨G, k, none⟩ (.string wd)) p G n (k + 1) wd m := by
  have pg := h.pg
  have lo := h.lo
  have K : Ke (fun j => j = G) w (w.setCell ⟨G, k, none⟩ (.string wd)) := (Ke.refl (fun j => j = G) w).setp k _
  refine ⟨h.nm.keep K (fun j q => by omega), h.gr.after K (fun j q => by omega), lo, (h.row.set k _).congr (fun j hj => ?_), pg⟩
  unfold gotF
  by_cases e : j = k
  · subst e
    rw [if_pos rfl, if_pos (by omega)]
  · rw [if_neg e]
    by_cases c : j < k
    · rw [if_pos c, if_pos (by omega)]
    · rw [if_neg c, if_neg (by omega)]
theorem on_start {w0 w : World} {p : Nat} {wd : ByteArray} (h : N1 w0 w p false) (n : Nat) : ON w0 (w.alloc (.cells (madeCells #[.string ⟨#[]⟩] n) 9)) p w.heap.size n 0 wd false := by
  have g := (Ke.refl (fun _ => False) w).alloc (.cells (madeCells #[.string ⟨#[]⟩] n) 9)
  refine ⟨(h.n.keep g (fun _ q => q.elim)).up (by have := h.n.2.1; omega) (by simp), h.gr.trans g, h.lo, World.rowIs_made w _ n 9, by have := h.n.2.1; omega⟩
theorem ON.cell (h : ON w0 w p G n n wd m) {j : Nat} (hj : j < n) : w.cell? ⟨G, j, none⟩ = some (.string wd) := by
  rw [h.row.cell hj, gotF, if_pos hj]
end
theorem tick : numW ⟨#[116, 105, 99, 107]⟩ = 8 := by decide

set_option maxRecDepth 100000 in
set_option maxHeartbeats 4000000 in
theorem once_walk (many op : Int) (hm : 0 ≤ many ∧ many ≤ 255) (ho : 0 ≤ op ∧ op ≤ 255) (w : World) :
    Calls Try.prog 4 #[.int .u8 many, .int .u8 op] w fun e w' => e = .returned (.bool true) ∧ Gr w w' := by
  have AW := Lib.hid (fun w => awake_any w)
  obtain ⟨r1, hr1⟩ : ∃ r, many % 20 = r := ⟨_, rfl⟩
  obtain ⟨r2, hr2⟩ : ∃ r, op % 8 = r := ⟨_, rfl⟩
  have hr1' : many.tmod 20 = r1 := by rw [Int.tmod_eq_emod_of_nonneg hm.1]; exact hr1
  have hr2' : op.tmod 8 = r2 := by rw [Int.tmod_eq_emod_of_nonneg ho.1]; exact hr2
  have b1 : 0 ≤ r1 ∧ r1 ≤ 19 := by omega
  have b2 : 0 ≤ r2 ∧ r2 ≤ 7 := by omega
  obtain ⟨n, hn⟩ := Int.eq_ofNat_of_zero_le (show 0 ≤ 1 + r1 by omega)
  obtain ⟨q, hq⟩ := Int.eq_ofNat_of_zero_le (show 0 ≤ 1 + r2 by omega)
  obtain ⟨wd, hwd⟩ : ∃ wd, opW q = wd := ⟨_, rfl⟩
  have OW : Hid (atW opW 9 (q : Int) sNone = wd) := Lib.hid (by rw [atW_in (by omega)]; exact hwd)
  have WDH := Lib.hid hwd
  have bn : 1 ≤ n ∧ n ≤ 20 := by omega
  have bq : 1 ≤ q ∧ q ≤ 8 := by omega
  have BN := Lib.hid bn
  have BQ := Lib.hid bq
  have hmk := run_make_row' (P := Try.prog) 26 9 (.string ⟨#[]⟩) 16 Try.underlying26 info9s rfl .i64 .i64 n (by omega) (by omega)
  have b0 : (0 : Int) ≤ (q : Int) ∧ (q : Int) < (9 : Int) := by omega
  have w1' : wrap64 many = many := by unfold wrap64; omega
  have w2' : wrap64 op = op := by unfold wrap64; omega
  have w3' : wrap64 (1 + r1) = n := by rw [← hn]; unfold wrap64; omega
  have w4' : wrap64 (1 + r2) = q := by rw [← hq]; unfold wrap64; omega
  have W5 : Hid (IntKind.i64.wrap op = op) := Lib.hid (wrap_fit (by omega) (by omega))
  have W6 : Hid (IntKind.i64.wrap (1 + r2) = q) := Lib.hid (by rw [← hq]; exact wrap_fit (by omega) (by omega))
  clear hwd bn bq hm ho b1 b2 hn hq hr1 hr2
  go_enter Try.func4, Try.ntmps4
  go_wp2_with fail
  refine (AW.out _).mono ?_
  rintro e w1 ⟨rfl, g1⟩
  have G1 := Lib.hid g1
  clear g1
  go_wp2_with fail
  refine (new_any w1).mono ?_
  rintro e w2 ⟨rfl, rfl⟩
  have N0 := Lib.hid (n1_new G1.out)
  obtain ⟨p, hp⟩ : ∃ p, w1.heap.size = p := ⟨_, rfl⟩
  rw [hp] at N0 ⊢
  generalize w1.alloc newO = w2 at *
  clear hp G1
  go_wp2_with fail
  have A4 : Hid (∃ G, w2.heap.size = G ∧ ON w (w2.alloc (.cells (madeCells #[.string ⟨#[]⟩] n) 9)) p G n 0 wd false) := Lib.hid ⟨_, rfl, on_start N0.out n⟩
  obtain ⟨G, hG, H0⟩ := A4.out
  rw [hG]
  have H := Lib.hid H0
  clear A4 hG H0 N0 hmk
  generalize w2.alloc (.cells (madeCells #[.string ⟨#[]⟩] n) 9) = w3 at *
  simp only [w1', w3']
  go_loopg [8] n (fun kx s8 wr => ∃ (k : Nat) (m : Bool), s8 = .int .i64 (k : Int) ∧ k ≤ n ∧ n - k ≤ kx ∧ Aside (ON w wr p G n k wd m ∧ (0 < k → m = true)))
  case atStart => exact ⟨0, false, rfl, by omega, by omega, H.out, by omega⟩
  case round =>
    clear H
    obtain ⟨k, m, rfl, hk, hkx, D⟩ := hrel
    by_cases hlt : k < n
    · have d0 : decide ((k : Int) < (n : Int)) = true := by simp; omega
      have d1 : decide (k < n) = true := by simp; omega
      have bk : (0 : Int) ≤ (k : Int) ∧ (k : Int) < (n : Int) := by omega
      have kb : k ≤ 20 := by have := BN.out; omega
      have HD := Lib.hid D.out.1
      clear D
      obtain ⟨t, ht⟩ : ∃ t, (k : Int).tmod 3 = t := ⟨_, rfl⟩
      have ht' : (k : Int) % 3 = t := by rw [← ht, Int.tmod_eq_emod_of_nonneg (by omega)]
      rcases (show t = 0 ∨ t = 1 ∨ t = 2 by omega) with h | h | h <;> rw [h] at ht ht' <;> clear h
      · clear ht'
        go_wp2_with fail
        refine (mode_any HD.out.nm k).mono ?_
        rintro e x1 ⟨rfl, D⟩
        have D1 := Lib.hid (HD.out.step D)
        clear D HD
        go_wp2_with fail
        refine (op_any D1.out.nm q).mono ?_
        rw [OW.out]
        rintro e x2 ⟨rfl, D⟩
        have D2 := Lib.hid (D1.out.step D)
        clear D D1
        have c0 : ∃ v, x2.cell? ⟨G, k, none⟩ = some v := ⟨_, D2.out.row.cell hlt⟩
        obtain ⟨v0, cv⟩ := c0
        have cf := D2.out.row.frozen k
        go_wp2_with fail
        go_roundg (n - (k + 1))
        case measure => omega
        case rel => exact ⟨k + 1, true, by go_num, by omega, by omega, D2.out.set hlt, fun _ => rfl⟩
      · clear ht'
        go_wp2_with fail
        refine (number_any HD.out.nm ⟨#[116, 105, 99, 107]⟩ (by decide)).mono ?_
        rw [tick]
        rintro e x1 ⟨rfl, D⟩
        have D1 := Lib.hid (HD.out.step D)
        clear D HD
        go_wp2_with fail
        refine (op_any D1.out.nm q).mono ?_
        rw [OW.out]
        rintro e x2 ⟨rfl, D⟩
        have D2 := Lib.hid (D1.out.step D)
        clear D D1
        have c0 : ∃ v, x2.cell? ⟨G, k, none⟩ = some v := ⟨_, D2.out.row.cell hlt⟩
        obtain ⟨v0, cv⟩ := c0
        have cf := D2.out.row.frozen k
        go_wp2_with fail
        go_roundg (n - (k + 1))
        case measure => omega
        case rel => exact ⟨k + 1, true, by go_num, by omega, by omega, D2.out.set hlt, fun _ => rfl⟩
      · clear ht'
        go_wp2_with fail
        refine (err_any HD.out.nm k).mono ?_
        rintro e x1 ⟨rfl, D⟩
        have D1 := Lib.hid (HD.out.step D)
        clear D HD
        go_wp2_with fail
        refine (op_any D1.out.nm q).mono ?_
        rw [OW.out]
        rintro e x2 ⟨rfl, D⟩
        have D2 := Lib.hid (D1.out.step D)
        clear D D1
        have c0 : ∃ v, x2.cell? ⟨G, k, none⟩ = some v := ⟨_, D2.out.row.cell hlt⟩
        obtain ⟨v0, cv⟩ := c0
        have cf := D2.out.row.frozen k
        go_wp2_with fail
        go_roundg (n - (k + 1))
        case measure => omega
        case rel => exact ⟨k + 1, true, by go_num, by omega, by omega, D2.out.set hlt, fun _ => rfl⟩
    · obtain rfl : k = n := by omega
      have D0 := Lib.hid (D.out.1)
      have M1 := D.out.2 (by have := BN.out; omega)
      subst M1
      clear D
      go_wp2_with fail
      go_loopg [9] k (fun kx s9 wr => ∃ (j : Nat), s9 = .int .i64 (j : Int) ∧ j ≤ k ∧ k - j ≤ kx ∧ Aside (ON w wr p G k k wd true))
      case atStart => exact ⟨0, rfl, by omega, by omega, D0.out⟩
      case round =>
        clear D0
        obtain ⟨j, rfl, hj, hjx, D⟩ := hrel
        by_cases hlt : j < k
        · have d0 : decide ((j : Int) < (k : Int)) = true := by simp; omega
          have d1 : decide (j < k) = true := by simp; omega
          have d2 : (j : Int) < (k : Int) := by omega
          have bk : (0 : Int) ≤ (j : Int) ∧ (j : Int) < (k : Int) := by omega
          have kb : k ≤ 20 := by have := BN.out; omega
          have HD := Lib.hid (D.out.gro ((Ke.refl _ wr).drew))
          clear D
          have cg : wr.drew.cell? ⟨G, j, none⟩ = some (.string wd) := HD.out.cell hlt
          have CW : Hid (∃ B, Calls Try.prog 10 #[] wr.drew fun e w' => e = .returned (.slice (some ⟨B, 0, none⟩) 9 9) ∧ w'.cell? ⟨B, q, none⟩ = some (.string wd) ∧ w'.cell? ⟨G, j, none⟩ = some (.string wd) ∧ Hid (ON w w' p G k k wd true)) := Lib.hid ⟨wr.drew.heap.size, by
            refine (words_any wr.drew).mono ?_
            rintro e w' ⟨rfl, rfl⟩
            have g : Gr wr.drew (wr.drew.alloc wordsO) := (Ke.refl _ wr.drew).alloc wordsO
            exact ⟨rfl, by rw [← WDH.out]; exact words_wd wr.drew q (by have := BQ.out; omega), (HD.out.gro g).cell hlt, Lib.hid (HD.out.gro g)⟩⟩
          obtain ⟨B, CB⟩ := CW.out
          have CBH := Lib.hid CB
          clear CW CB HD
          have w5' := W5.out
          have w6' := W6.out
          go_upto_region 21 with fail
          go_region_law (go_simp; refine CBH.out.mono ?_; rintro e w9 ⟨rfl, c8, c9, H9⟩; dsimp only)
          all_goals
            go_wp2_with fail
            go_roundg (k - (j + 1))
            case measure => omega
            case rel => exact ⟨j + 1, by go_num, by omega, by omega, H9.out⟩
        · obtain rfl : j = k := by omega
          have H := Lib.hid D.out
          clear D
          go_wp2_with fail
          refine (made1 H.out.nm).mono ?_
          rintro e x6 ⟨rfl, hx6⟩
          obtain rfl := hx6.symm
          go_wp2
          go_ret
          exact ⟨rfl, H.out.gr⟩
end Go.Proofs.Ytldogmifealkkaa
