/- Contracts of the document's own answers for the ledger (evenhandedref1): TaskMay, Lcm, Sum. -/
import Derived.Test.YtbimaaknjedonaaD1
namespace Go.Proofs.Ytbimaaknjedonaa
open Go.RowKit Go.Lib Go.Maps
set_option linter.unusedVariables false

theorem tmay_any (e p : Int) (w : World) : Calls Try.prog 20 #[.int .i64 e, .int .i64 p] w fun x w' => x = .returned (.bool (mayB e p)) ∧ w' = w := by
  have hv : mayB e p = decide (1 ≤ e ∧ e ≤ p ∧ p ≤ 1048575) := rfl
  have HV := Lib.hid hv
  clear hv
  by_cases h0 : 1 ≤ p
  · have d0 : decide (1 ≤ p) = true := by simp [h0]
    by_cases h3 : p ≤ 1048575
    · have d3 : decide (p ≤ 1048575) = true := by simp [h3]
      by_cases h1 : 1 ≤ e
      · have d1 : decide (1 ≤ e) = true := by simp [h1]
        by_cases h2 : e ≤ p
        · have d2 : decide (e ≤ p) = true := by simp [h2]
          have HE : Hid (mayB e p = true) := by rw [Hid, HV.out]; simp [h1, h2, h3]
          go_enter Try.func20, Try.ntmps20
          go_wp2
          go_ret
          exact ⟨ret_bool' HE.out.symm, rfl⟩
        · have d2 : decide (e ≤ p) = false := by simp [h2]
          have HE : Hid (mayB e p = false) := by rw [Hid, HV.out]; simp [h2]
          go_enter Try.func20, Try.ntmps20
          go_wp2
          go_ret
          exact ⟨ret_bool' HE.out.symm, rfl⟩
      · have d1 : decide (1 ≤ e) = false := by simp [h1]
        have HE : Hid (mayB e p = false) := by rw [Hid, HV.out]; simp [h1]
        go_enter Try.func20, Try.ntmps20
        go_wp2
        go_ret
        exact ⟨ret_bool' HE.out.symm, rfl⟩
    · have d3 : decide (p ≤ 1048575) = false := by simp [h3]
      have HE : Hid (mayB e p = false) := by rw [Hid, HV.out]; simp [h3]
      go_enter Try.func20, Try.ntmps20
      go_wp2
      go_ret
      exact ⟨ret_bool' HE.out.symm, rfl⟩
  · have d0 : decide (1 ≤ p) = false := by simp [h0]
    have HE : Hid (mayB e p = false) := by
      rw [Hid, HV.out]
      simp only [decide_eq_false_iff_not]
      omega
    go_enter Try.func20, Try.ntmps20
    go_wp2
    go_ret
    exact ⟨ret_bool' HE.out.symm, rfl⟩

/-! ### the multiple of a row -/
/-- As the document has it: cut. -/
def lcmC (L : List Wt) : Int := if lcmL L ≤ 16777216 then ((lcmL L : Nat) : Int) else 16777217
theorem take_succ_getD {A : List Wt} {j : Nat} (h : j < A.length) : A.take (j + 1) = A.take j ++ [A.getD j default] := by
  rw [List.take_add_one, List.getD_eq_getElem?_getD, List.getElem?_eq_getElem h]
  rfl
theorem getD_mem {A : List Wt} {j : Nat} (h : j < A.length) : A.getD j default ∈ A := by
  rw [List.getD_eq_getElem?_getD, List.getElem?_eq_getElem h]
  exact List.getElem_mem h
theorem take_dvd (A : List Wt) (j : Nat) : lcmL (A.take j) ∣ lcmL A := lcmL_le (fun x hx => ⟨x, List.mem_of_mem_take hx, rfl⟩)
/-- The loop of Lcm. -/
def LcmRel (w : World) (L : List Wt) (x y : Value) (wr : World) : Prop :=
  ∃ (i : Nat) (n : Int), x = .int .i64 n ∧ y = .int .i64 (i : Nat) ∧ i ≤ L.length ∧ n = ((lcmL (L.take i) : Nat) : Int) ∧ n ≤ 16777216 ∧ Gr w wr
theorem rgcdG (a b v : Int) (w : World) (h0 : -9223372036854775807 ≤ a) (h1 : a ≤ 9223372036854775807) (h2 : -9223372036854775807 ≤ b) (h3 : b ≤ 9223372036854775807) (hv : gcdV a b = v) :
    Calls Try.prog 27 #[.int .i64 a, .int .i64 b] w fun e w' => e = .returned (.int .i64 v) ∧ Gr w w' := by
  rw [← hv]
  exact calls_gr (rgcd_any a b w h0 h1 h2 h3)

set_option maxHeartbeats 2000000 in
theorem rlcm_any {w : World} {a : Option Addr} {m c : Nat} {L : List Wt} (hm : Mr w a m c L) (hM : ∀ x ∈ L, x.May) (hl : L.length ≤ 1000) :
    Calls Try.prog 17 #[.slice a m c] w fun x w' => x = .returned (.int .i64 (lcmC L)) ∧ Gr w w' := by
  obtain rfl := hm.len
  have MR := Lib.hid hm
  have HM := Lib.hid hM
  clear hm hM
  go_enter Try.func17, Try.ntmps17
  go_wp2_with fail
  go_loopw [3, 4] (fun x y wr => LcmRel w L x y wr) (fun _ y _ => L.length - (RowKit.intOf y).toNat)
  case atStart => exact ⟨0, 1, rfl, rfl, by omega, rfl, by omega, Ke.refl _ _⟩
  case round =>
    obtain ⟨i, n, rfl, rfl, hi, hn, hn1, g⟩ := hrel
    have G := Lib.hid g
    have HN := Lib.hid hn
    have n0 : 1 ≤ n := by
      rw [hn]
      have := lcmL_pos (L := L.take i) (fun x hx => HM.out x (List.mem_of_mem_take hx))
      omega
    clear g hn
    obtain ⟨k, hk⟩ : ∃ k, L.length = k := ⟨_, rfl⟩
    have HK := Lib.hid hk
    rw [hk] at hi hl ⊢
    by_cases hlt : i < k
    · have hj : i < L.length := by omega
      obtain ⟨b, off, rfl, _, _, c2⟩ := MR.out.cells hj
      have xm := HM.out _ (getD_mem hj)
      have e1 := take_succ_getD hj
      generalize L.getD i default = x at c2 xm e1
      have p0 := xm.p0
      have p1 := xm.p1
      obtain ⟨p, hp⟩ : ∃ p, x.p = p := ⟨_, rfl⟩
      rw [hp] at c2 p0 p1
      have c2r : wr.cell? ⟨b, off + i * 3 + 2, none⟩ = some (.int .i64 p) := kcell G.out c2
      obtain ⟨ge, g1, g2⟩ := gcd_pos_bd (b := p) n0 (by omega)
      obtain ⟨gg, hgg⟩ : ∃ gg, gcdV n p = gg := ⟨_, rfl⟩
      have lv := lcm_val n0 (by omega) p0
      rw [hgg] at g1 g2 lv
      obtain ⟨q, hq⟩ : ∃ q, n / gg = q := ⟨_, rfl⟩
      have hq' : n.tdiv gg = q := by rw [Int.tdiv_eq_ediv_of_nonneg (by omega)]; exact hq
      rw [hq] at lv
      obtain ⟨v, hv⟩ : ∃ v, q * p = v := ⟨_, rfl⟩
      rw [hv] at lv
      have ev : v = ((lcmL (L.take (i + 1)) : Nat) : Int) := by
        rw [e1, lcmL_app, lv]
        have : n.natAbs = lcmL (L.take i) := by have := HN.out; omega
        rw [this, hp]
      have q0 : 0 ≤ q := by rw [← hq]; exact Int.ediv_nonneg (by omega) (by omega)
      have q1 : q ≤ n := by rw [← hq]; exact Int.ediv_le_self _ (by omega)
      have v1 : v ≤ 17592186044416 := by
        rw [← hv]
        exact Int.le_trans (Int.mul_le_mul (show q ≤ 16777216 by omega) p1 (by omega) (by omega)) (by omega)
      have v0 : 0 ≤ v := by rw [← hv]; exact Int.mul_nonneg q0 (by omega)
      have EV := Lib.hid ev
      have CG := Lib.hid (fun W : World => rgcdG n p gg W (by omega) (by omega) (by omega) (by omega) hgg)
      have gz : ¬ gg = 0 := by omega
      have wq : IntKind.i64.wrap q = q := IntWalk.i64_in _ ⟨by omega, by omega⟩
      have wv : IntKind.i64.wrap v = v := IntWalk.i64_in _ ⟨by omega, by omega⟩
      have d1 : decide ((i : Int) < (k : Int)) = true := by simp; omega
      have d2 : (i : Int) < (k : Int) := by omega
      have gk := gw_cell c2r
      have hne := gw_ne (Ke.refl (fun _ => False) wr)
      have hself := gw_all (Ke.refl (fun _ => False) wr)
      clear lv ev hgg ge e1 c2 c2r xm hp
      go_upto_region 5 with fail
      refine wp_region_gw (by kernel_rfl) (by kernel_rfl) ?_
      repeat (go_big_quiet_step (first | (go_at_call 27; exact gw_of (CG.out _))))
      refine wpQuiet_nil ?_
      intro _ hw'
      obtain ⟨pp, hw''⟩ := hw'
      subst hw''
      have G2 := Lib.hid (G.out.gr pp.gr)
      clear gk hne hself CG
      by_cases hbig : 16777216 < v
      · have d3 : decide (16777216 < v) = true := by simp [hbig]
        have HE : Hid (16777217 = lcmC L) := by
          show 16777217 = lcmC L
          unfold lcmC
          have h1 := EV.out
          have h2 := Nat.le_of_dvd (lcmL_pos HM.out) (take_dvd L (i + 1))
          rw [if_neg (by omega)]
        go_wp2
        go_ret
        exact ⟨ret_int HE.out, G2.out⟩
      · have d3 : decide (16777216 < v) = false := by simp [hbig]
        go_wp2
        go_roundw
        case rel => exact ⟨i + 1, v, rfl, rfl, by have := HK.out; omega, EV.out, by omega, G2.out⟩
        case measure => simp [RowKit.intOf]; omega
    · obtain rfl : i = k := by omega
      have d1 : decide ((i : Int) < (i : Int)) = false := by simp
      have HE : Hid (n = lcmC L) := by
        have h1 := HN.out
        rw [← HK.out, List.take_length] at h1
        show n = lcmC L
        unfold lcmC
        rw [if_pos (by omega)]
        exact h1
      go_wp2
      go_ret
      exact ⟨ret_int HE.out, G.out⟩

/-! ### the sum of a row -/
def SumRel (w : World) (L : List Wt) (m : Int) (x y : Value) (wr : World) : Prop :=
  ∃ (i : Nat) (n : Int), x = .int .i64 n ∧ y = .int .i64 (i : Nat) ∧ i ≤ L.length ∧ n = numL m (L.take i) ∧ Gr w wr
theorem numL_app' (m : Int) : ∀ (L : List Wt) (x : Wt), numL m (L ++ [x]) = numL m L + x.e * (m / x.p) := numL_app m
theorem numL_bd {m : Int} (hm : 0 < m) : ∀ {L : List Wt}, (∀ x ∈ L, x.May ∧ x.p ∣ m) → 0 ≤ numL m L ∧ numL m L ≤ L.length * m
  | [], _ => by simp [numL]
  | y :: l, h => by
    obtain ⟨h0, c, hc⟩ := h y (by simp)
    have hp := h0.p0
    have e : m / y.p = c := by rw [hc]; exact Int.mul_ediv_cancel_left _ (by omega)
    have hc0 : 0 ≤ c := by
      rcases Int.lt_or_le c 0 with q | q
      · exact absurd (Int.mul_neg_of_pos_of_neg (show 0 < y.p by omega) q) (by omega)
      · exact q
    have ih := numL_bd hm (L := l) (fun x hx => h x (by simp [hx]))
    have : y.e * c ≤ y.p * c := Int.mul_le_mul_of_nonneg_right h0.e1 hc0
    have : 0 ≤ y.e * c := Int.mul_nonneg (by have := h0.e0; omega) hc0
    show 0 ≤ y.e * (m / y.p) + numL m l ∧ y.e * (m / y.p) + numL m l ≤ ((l.length + 1 : Nat) : Int) * m
    rw [e]
    have e2 : ((l.length + 1 : Nat) : Int) * m = l.length * m + m := by rw [Int.natCast_add, Int.add_mul]; simp
    omega

set_option maxHeartbeats 2000000 in
theorem rsum_any {w : World} {a : Option Addr} {m0 c : Nat} {L : List Wt} (hm : Mr w a m0 c L) (hM : ∀ x ∈ L, x.May) (hl : L.length ≤ 1000) (hc : lcmL L ≤ 16777216) {N D : Int} (hN : (sumL L).num = N) (hD : ((sumL L).den : Int) = D) :
    Calls Try.prog 15 #[.slice a m0 c] w fun x w' => x = .returned (.agg #[.int .i64 N, .int .i64 D]) ∧ Gr w w' := by
  obtain rfl := hm.len
  have MR := Lib.hid hm
  have HM := Lib.hid hM
  have CL := Lib.hid (rlcm_any (hm.gr ((Ke.refl _ w).alloc (.cells #[.int .i64 0, .int .i64 0] 38))) hM hl)
  obtain ⟨m, hmm⟩ : ∃ m : Int, ((lcmL L : Nat) : Int) = m := ⟨_, rfl⟩
  have em : lcmC L = m := by unfold lcmC; rw [if_pos hc]; exact hmm
  rw [em] at CL
  have m0' : 0 < m := by have := lcmL_pos hM; omega
  have m1' : m ≤ 16777216 := by omega
  have DV : Hid (∀ x ∈ L, x.May ∧ x.p ∣ m) := fun x hx => ⟨hM x hx, by have := (dvdZ hM x hx).2; rwa [hmm] at this⟩
  have CO : Hid (∀ W : World, Calls Try.prog 19 #[.int .i64 (numL m L), .int .i64 m] W fun e w' => e = .returned (.agg #[.int .i64 N, .int .i64 D]) ∧ Gr W w') := fun W => by
    have b := numL_bd m0' DV.out
    have b2 : (L.length : Int) * m ≤ 1000 * 16777216 := Int.mul_le_mul (by omega) m1' (by omega) (by omega)
    have q := calls_gr (rof_any (numL m L) m W (by omega) (by omega) (by omega) (by omega) (by omega))
    have e : sumL L = Rat.divInt (numL m L) m := sumL_num m0' (fun x hx => ⟨by have := (hM x hx).p0; omega, (DV.out x hx).2⟩)
    rw [← e, hN, hD] at q
    exact q
  clear hm hM hmm em hN hD hc
  go_enter Try.func15, Try.ntmps15
  go_wp2_with fail
  refine CL.out.mono ?_
  rintro x w1 ⟨rfl, g1⟩
  have R0 : Hid (w1.cell? ⟨w.heap.size, 0, none⟩ = some (.int .i64 0)) := kcell g1 (by simp [go_sem])
  have R1 : Hid (w1.cell? ⟨w.heap.size, 1, none⟩ = some (.int .i64 0)) := kcell g1 (by simp [go_sem])
  have F0 : Hid (w1.frozen? ⟨w.heap.size, 0, none⟩ = false) := kfz g1 (by simp) (by simp [go_sem])
  have F1 : Hid (w1.frozen? ⟨w.heap.size, 1, none⟩ = false) := kfz g1 (by simp) (by simp [go_sem])
  have G1 : Hid (Gr w w1) := ((Ke.refl _ w).alloc _).gr g1
  have M1 := Lib.hid (MR.out.gr G1.out)
  have WS := Lib.hid (show w.heap.size ≤ w.heap.size from Nat.le_refl _)
  clear g1 CL MR
  go_wp2_with fail
  go_loopw [4, 5] (fun x y wr => SumRel w1 L m x y wr) (fun _ y _ => L.length - (RowKit.intOf y).toNat)
  case atStart => exact ⟨0, 0, rfl, rfl, by omega, rfl, Ke.refl _ _⟩
  case round =>
    obtain ⟨i, n, rfl, rfl, hi, hn, g⟩ := hrel
    have G := Lib.hid g
    have HN := Lib.hid hn
    have bt := numL_bd (L := L.take i) m0' (fun x hx => DV.out x (List.mem_of_mem_take hx))
    rw [← hn] at bt
    have n0 : 0 ≤ n := bt.1
    have n1 : n ≤ 16777216000 := by
      refine Int.le_trans bt.2 (Int.le_trans (Int.mul_le_mul (show ((L.take i).length : Int) ≤ 1000 by simp; omega) m1' (by omega) (by omega)) (by omega))
    clear g hn bt
    obtain ⟨k, hk⟩ : ∃ k, L.length = k := ⟨_, rfl⟩
    have HK := Lib.hid hk
    rw [hk] at hi hl ⊢
    by_cases hlt : i < k
    · have hj : i < L.length := by omega
      obtain ⟨b, off, rfl, _, c1, c2⟩ := M1.out.cells hj
      have xm := DV.out _ (getD_mem hj)
      have e1 := take_succ_getD hj
      generalize L.getD i default = x at c1 c2 xm e1
      obtain ⟨xm, z, hz⟩ := xm
      have p0 := xm.p0
      have p1 := xm.p1
      have x0 := xm.e0
      have x1 := xm.e1
      obtain ⟨p, hp⟩ : ∃ p, x.p = p := ⟨_, rfl⟩
      obtain ⟨e, he⟩ : ∃ e, x.e = e := ⟨_, rfl⟩
      rw [he] at c1 x0 x1
      rw [hp] at c2 p0 p1 x1 hz
      have c1r : wr.cell? ⟨b, off + i * 3 + 1, none⟩ = some (.int .i64 e) := kcell G.out c1
      have c2r : wr.cell? ⟨b, off + i * 3 + 2, none⟩ = some (.int .i64 p) := kcell G.out c2
      have hq : m / p = z := by rw [hz]; exact Int.mul_ediv_cancel_left _ (by omega)
      have hq' : m.tdiv p = z := by rw [Int.tdiv_eq_ediv_of_nonneg (by omega)]; exact hq
      have z0 : 0 ≤ z := by rw [← hq]; exact Int.ediv_nonneg (by omega) (by omega)
      have z1 : z ≤ m := by rw [← hq]; exact Int.ediv_le_self _ (by omega)
      obtain ⟨v, hv⟩ : ∃ v, e * z = v := ⟨_, rfl⟩
      have v0 : 0 ≤ v := by rw [← hv]; exact Int.mul_nonneg (by omega) z0
      have v1 : v ≤ 17592186044416 := by
        rw [← hv]
        exact Int.le_trans (Int.mul_le_mul (show e ≤ 1048576 by omega) (show z ≤ 16777216 by omega) z0 (by omega)) (by omega)
      obtain ⟨s, hs⟩ : ∃ s, n + v = s := ⟨_, rfl⟩
      have ES : Hid (s = numL m (L.take (i + 1))) := by
        show s = _
        rw [e1, numL_app, ← HN.out, he, hp, hq, hv, hs]
      have pz : ¬ p = 0 := by omega
      have d1 : decide ((i : Int) < (k : Int)) = true := by simp; omega
      have d2 : (i : Int) < (k : Int) := by omega
      have wz : IntKind.i64.wrap z = z := IntWalk.i64_in _ ⟨by omega, by omega⟩
      have wv : IntKind.i64.wrap v = v := IntWalk.i64_in _ ⟨by omega, by omega⟩
      have ws : IntKind.i64.wrap s = s := IntWalk.i64_in _ ⟨by omega, by omega⟩
      clear e1 c1 c2 xm hp he hz
      go_upto_region 6 with fail
      go_region
      go_wp2
      go_roundw
      case rel => exact ⟨i + 1, s, rfl, rfl, by have := HK.out; omega, ES.out, G.out.drew⟩
      case measure => simp [RowKit.intOf]; omega
    · obtain rfl : i = k := by omega
      have d1 : decide ((i : Int) < (i : Int)) = false := by simp
      have hn' : n = numL m L := by
        have h1 := HN.out
        rwa [← HK.out, List.take_length] at h1
      subst hn'
      go_wp2_with fail
      refine (CO.out _).mono ?_
      rintro x w3 ⟨rfl, g3⟩
      have g4 := G.out.gr g3
      have r0 := kcell g4 R0.out
      have r1 := kcell g4 R1.out
      have f0 := kfz g4 (cell_lt R0.out) F0.out
      have f1 := kfz g4 (cell_lt R1.out) F1.out
      have G4 := Lib.hid (G1.out.gr g4)
      clear g3 g4
      go_wp2
      exact bodyPost_ret (v := .agg #[.int .i64 N, .int .i64 D]) (by simp [results, Try.results15, go_sem, r0, r1]) rfl ⟨rfl, (G4.out.set (.inr (by simp)) _).set (.inr (by simp)) _⟩
end Go.Proofs.Ytbimaaknjedonaa
