/- LedgerFills: weights of one period; the walk. -/
import Derived.Test.YtbimaaknjedonaaB1
namespace Go.Proofs.Ytbimaaknjedonaa
open Go.RowKit Go.Lib Go.Maps
set_option linter.unusedVariables false

/-- All of one period n; ids below i; s parts in all. -/
structure Fill (k n i s : Int) (L : List Wt) : Prop where
  per : ∀ x ∈ L, x.May ∧ x.p = n
  ids : ∀ x ∈ L, x.id < i
  num : numL n L = s
  s0 : 0 ≤ s
  s1 : s ≤ k * n
theorem numL_app (m : Int) : ∀ (L : List Wt) (x : Wt), numL m (L ++ [x]) = numL m L + x.e * (m / x.p)
  | [], x => by show x.e * (m / x.p) + 0 = 0 + x.e * (m / x.p); omega
  | y :: l, x => by
    show y.e * (m / y.p) + numL m (l ++ [x]) = y.e * (m / y.p) + numL m l + _
    rw [numL_app m l x]; omega
theorem Fill.nil {k n : Int} (h : 0 ≤ k * n) : Fill k n 0 0 [] := ⟨fun x hx => by simp at hx, fun x hx => by simp at hx, rfl, by omega, h⟩
theorem lcm_one {n : Int} (hn : 1 ≤ n) {L : List Wt} (h : ∀ x ∈ L, x.p = n) (i e : Int) : lcmL (L ++ [⟨i, e, n⟩]) = n.natAbs := by
  refine Nat.dvd_antisymm (lcmL_min fun x hx => ?_) (lcmL_dvd (x := ⟨i, e, n⟩) (by simp))
  rcases List.mem_append.1 hx with q | q
  · rw [h x q]; exact Nat.dvd_refl _
  · simp at q; subst q; exact Nat.dvd_refl _
theorem Fill.sum {k n i s : Int} {L : List Wt} (hn : 1 ≤ n) (h : Fill k n i s L) : sumL L = Rat.divInt s n := by
  rw [← h.num]
  exact sumL_num (by omega) (fun x hx => ⟨by have := (h.per x hx).2; omega, by rw [(h.per x hx).2]; exact ⟨1, by omega⟩⟩)
/-- What is answered to e parts more. -/
theorem Fill.can {k n i s e : Int} {L : List Wt} (hn : 1 ≤ n) (hn' : n ≤ 30) (he : 1 ≤ e ∧ e ≤ n) (h : Fill k n i s L) : canV k L e n = if s + e ≤ k * n then 0 else 8 := by
  have hs : sumL (L ++ [⟨0, e, n⟩]) = Rat.divInt (s + e) n := by
    rw [sumL_app, h.sum hn]
    exact divInt_same (by omega)
  have lw := low_of (show 0 < n by omega) hs
  have l := lcm_one hn (fun x hx => (h.per x hx).2) 0 e
  rcases canV_cases k L e n with ⟨a, _⟩ | ⟨_, ⟨b, q⟩ | ⟨b, ⟨c, q⟩ | ⟨c, q⟩⟩⟩
  · exact absurd ⟨he.1, he.2, by omega⟩ a
  · omega
  · rw [q, if_neg]
    intro z
    have := (lw.le_iff k).2 z
    omega
  · rw [q, if_pos ((lw.le_iff k).1 c)]
theorem Fill.add {k n i s e : Int} {L : List Wt} (hn : 1 ≤ n) (hn' : n ≤ 30) (he : 1 ≤ e ∧ e ≤ n) (h : Fill k n i s L) : addV k L i e n = if s + e ≤ k * n then 0 else 8 := by
  unfold addV
  have hno : L.any (fun x => decide (x.id = i)) = false := by
    cases c : L.any (fun x => decide (x.id = i)) with
    | false => rfl
    | true =>
      obtain ⟨x, hx, e⟩ := any_id.1 c
      have := h.ids x hx
      omega
  rw [if_neg (canV_may ⟨he.1, he.2, by omega⟩), hno, h.can hn hn' he]
  simp
theorem Fill.more {k n i s e : Int} {L : List Wt} (hn : 1 ≤ n) (hn' : n ≤ 30) (he : 1 ≤ e ∧ e ≤ n) (h : Fill k n i s L) (hf : s + e ≤ k * n) : Fill k n (i + 1) (s + e) (L ++ [⟨i, e, n⟩]) := by
  refine ⟨fun x hx => ?_, fun x hx => ?_, ?_, by have := h.s0; omega, hf⟩
  · rcases List.mem_append.1 hx with q | q
    · exact h.per x q
    · simp at q; subst q; exact ⟨⟨he.1, he.2, by show n ≤ 1048575; omega⟩, rfl⟩
  · rcases List.mem_append.1 hx with q | q
    · have := h.ids x q; omega
    · simp at q; subst q; show i < i + 1; omega
  · rw [numL_app, h.num]
    show s + e * (n / n) = s + e
    rw [Int.ediv_self (by omega), Int.mul_one]
theorem Fill.stay {k n i s : Int} {L : List Wt} (h : Fill k n i s L) : Fill k n (i + 1) s L := ⟨h.per, fun x hx => by have := h.ids x hx; omega, h.num, h.s0, h.s1⟩

/-- Bytes that came in. -/
def BytesAt (w : World) (a : Option Addr) (n : Nat) (q : Nat → Int) : Prop :=
  n = 0 ∨ ∃ b off, a = some ⟨b, off, none⟩ ∧ b < w.heap.size ∧ ∀ i, i < n → w.cell? ⟨b, off + i, none⟩ = some (.int .u8 (q i)) ∧ 0 ≤ q i ∧ q i ≤ 255
/-- The loop of LedgerFills. -/
def FillRel (w : World) (l : Nat) (k n : Int) (m : Nat) (x y : Value) (wr : World) : Prop :=
  ∃ (i : Nat) (s : Int) (L : List Wt), x = .int .i64 s ∧ y = .int .i64 (i : Nat) ∧ i ≤ m ∧ LW w wr l k L ∧ Fill k n i s L

set_option maxHeartbeats 4000000 in
theorem fills_walk (a : Option Addr) (m c0 : Nat) (q : Nat → Int) (cores p : Int) (hc : 0 ≤ cores ∧ cores ≤ 255) (hp : 0 ≤ p ∧ p ≤ 255) (w : World) (hm : m ≤ 300) (hq : BytesAt w a m q) :
    Calls Try.prog 6 #[.int .u8 cores, .int .u8 p, .slice a m c0] w fun x w' => x = .returned (.bool true) ∧ Gr w w' := by
  obtain ⟨r1, hr1⟩ : ∃ r, cores % 8 = r := ⟨_, rfl⟩
  obtain ⟨r2, hr2⟩ : ∃ r, p % 30 = r := ⟨_, rfl⟩
  have hr1' : cores.tmod 8 = r1 := by rw [Int.tmod_eq_emod_of_nonneg hc.1]; exact hr1
  have hr2' : p.tmod 30 = r2 := by rw [Int.tmod_eq_emod_of_nonneg hp.1]; exact hr2
  have b1 : 0 ≤ r1 ∧ r1 ≤ 7 := by omega
  have b2 : 0 ≤ r2 ∧ r2 ≤ 29 := by omega
  obtain ⟨k, hk⟩ : ∃ k, 1 + r1 = k := ⟨_, rfl⟩
  obtain ⟨n, hn⟩ : ∃ n, 1 + r2 = n := ⟨_, rfl⟩
  have hk0 : 1 ≤ k := by omega
  have hk1 : k ≤ 8 := by omega
  have hn0 : 1 ≤ n := by omega
  have hn1 : n ≤ 30 := by omega
  have HCUT : Hid (cut k = k) := by show _ = _; unfold cut; omega
  obtain ⟨K, hK⟩ : ∃ K, k * n = K := ⟨_, rfl⟩
  have hK0 : 0 ≤ K ∧ K ≤ 240 := by
    rw [← hK]
    exact ⟨Int.mul_nonneg (by omega) (by omega), Int.le_trans (Int.mul_le_mul_of_nonneg_right hk1 (by omega)) (by omega)⟩
  have HQ := Lib.hid hq
  have HKK := Lib.hid hK
  have hm2 : ¬ (300 : Int) < (m : Int) := by omega
  have hm3 : decide ((300 : Int) < (m : Int)) = false := by simp; omega
  clear hq
  go_enter Try.func6, Try.ntmps6
  go_wp2_with fail
  refine (awake8 _).mono ?_
  rintro x w1 ⟨rfl, g1⟩
  have G1 := Lib.hid g1
  clear g1
  go_wp2_with fail
  refine (new_any k _).mono ?_
  rintro x w2 ⟨rfl, rfl⟩
  have H := Lib.hid (HCUT.out ▸ lw_new G1.out k)
  generalize w1.alloc (LO k) = w2 at H ⊢
  generalize w1.heap.size = l at H ⊢
  clear hr1 hr2 hr1' hr2' b1 b2 hk hn
  go_wp2_with fail
  go_loopw [10, 11] (fun x y wr => FillRel w l k n m x y wr) (fun _ y _ => m - (RowKit.intOf y).toNat)
  case atStart => exact ⟨0, 0, [], rfl, rfl, Nat.zero_le _, H.out, Fill.nil (by rw [HKK.out]; omega)⟩
  case round =>
    obtain ⟨i, s, L, rfl, rfl, him, hl, hf⟩ := hrel
    have s0 := hf.s0
    have s1 : s ≤ K := by have := hf.s1; rw [HKK.out] at this; exact this
    have HL := Lib.hid hl
    have HF := Lib.hid hf
    clear hl hf H
    by_cases hi : i < m
    · obtain ⟨b, off, rfl, hbl, hcell⟩ : ∃ b off, a = some ⟨b, off, none⟩ ∧ b < w.heap.size ∧ ∀ i, i < m → w.cell? ⟨b, off + i, none⟩ = some (.int .u8 (q i)) ∧ 0 ≤ q i ∧ q i ≤ 255 := by
        rcases HQ.out with z | z
        · omega
        · exact z
      obtain ⟨hce, hv0, hv1⟩ := hcell i hi
      obtain ⟨v, hv⟩ : ∃ v, q i = v := ⟨_, rfl⟩
      rw [hv] at hce hv0 hv1
      have hcr : wr.cell? ⟨b, off + i, none⟩ = some (.int .u8 v) := by
        obtain ⟨_, _, _, g⟩ := HL.out
        exact kcell g hce
      obtain ⟨r, hr⟩ : ∃ r, v % n = r := ⟨_, rfl⟩
      have hr' : v.tmod n = r := by rw [Int.tmod_eq_emod_of_nonneg hv0]; exact hr
      have r0 : 0 ≤ r := by rw [← hr]; exact Int.emod_nonneg _ (by omega)
      have r1 : r < n := by rw [← hr]; exact Int.emod_lt_of_pos _ (by omega)
      obtain ⟨e, he⟩ : ∃ e, 1 + r = e := ⟨_, rfl⟩
      have HE : Hid (1 ≤ e ∧ e ≤ n) := ⟨by omega, by omega⟩
      have e0 : 1 ≤ e := HE.out.1
      have e1 : e ≤ n := HE.out.2
      have d1 : decide ((i : Int) < (m : Int)) = true := by simp; omega
      have d2 : i < m := hi
      obtain ⟨t, ht⟩ : ∃ t, s + e = t := ⟨_, rfl⟩
      have HT := Lib.hid ht
      have t0 : 0 ≤ t := by omega
      have t1 : t ≤ 270 := by omega
      have HCAN := Lib.hid (HF.out.can hn0 hn1 HE.out)
      have HADD := Lib.hid (HF.out.add hn0 hn1 HE.out)
      rw [HT.out, HKK.out] at HCAN HADD
      have hnz : ¬ n = 0 := by omega
      have HWI : Hid ((Lit.int .i64 (i : Int)).wf = true) := wfi (by omega) (by omega)
      clear hce hcell hv
      by_cases hfit : t ≤ K
      · have d3 : decide (t ≤ K) = true := by simp [hfit]
        rw [if_pos hfit] at HCAN HADD
        have HF' := Lib.hid (HF.out.more hn0 hn1 HE.out (by rw [HT.out, HKK.out]; exact hfit))
        rw [HT.out] at HF'
        have HS := Lib.hid (HF'.out.sum hn0)
        go_wp2_with fail
        refine (lw_can HL.out e n 0 HCAN.out).mono ?_
        rintro x w3 ⟨rfl, h3⟩
        have HL3 := Lib.hid h3
        clear h3 hcr
        go_wp2_with fail
        refine (lw_add HL3.out (i : Int) e n 0 HWI.out HADD.out).mono ?_
        rintro x w4 ⟨rfl, h4⟩
        have HL4 := Lib.hid h4
        clear h4 HL3
        go_wp2_with fail
        refine (lw_sum HL4.out (congrArg Rat.num HS.out) (congrArg (fun z : Rat => (z.den : Int)) HS.out)).mono ?_
        rintro x w5 ⟨rfl, h5⟩
        have HL5 := Lib.hid h5
        clear h5 HL4
        go_wp2_with fail
        refine (calls_gr (rof_any t n _ (by omega) (by omega) (by omega) (by omega) hnz)).mono ?_
        rintro x w6 ⟨rfl, g6⟩
        have HL6 := Lib.hid (HL5.out.step g6)
        clear g6 HL5
        go_wp2
        go_roundw
        case rel => exact ⟨i + 1, t, _, rfl, rfl, by omega, HL6.out, HF'.out⟩
        case measure => simp [RowKit.intOf]; omega
      · have d3 : decide (t ≤ K) = false := by simp [hfit]
        rw [if_neg hfit] at HCAN HADD
        have HF' := Lib.hid HF.out.stay
        have HS := Lib.hid (HF'.out.sum hn0)
        go_wp2_with fail
        refine (lw_can HL.out e n 8 HCAN.out).mono ?_
        rintro x w3 ⟨rfl, h3⟩
        have HL3 := Lib.hid h3
        clear h3 hcr
        go_wp2_with fail
        refine (lw_add HL3.out (i : Int) e n 8 HWI.out HADD.out).mono ?_
        rintro x w4 ⟨rfl, h4⟩
        have HL4 := Lib.hid h4
        clear h4 HL3
        go_wp2_with fail
        refine (lw_sum HL4.out (congrArg Rat.num HS.out) (congrArg (fun z : Rat => (z.den : Int)) HS.out)).mono ?_
        rintro x w5 ⟨rfl, h5⟩
        have HL5 := Lib.hid h5
        clear h5 HL4
        go_wp2_with fail
        refine (calls_gr (rof_any s n _ (by omega) (by omega) (by omega) (by omega) hnz)).mono ?_
        rintro x w6 ⟨rfl, g6⟩
        have HL6 := Lib.hid (HL5.out.step g6)
        clear g6 HL5
        go_wp2
        go_roundw
        case rel => exact ⟨i + 1, s, _, rfl, rfl, by omega, HL6.out, HF'.out⟩
        case measure => simp [RowKit.intOf]; omega
    · have d1 : decide ((i : Int) < (m : Int)) = false := by simp; omega
      go_wp2
      go_ret
      obtain ⟨_, _, _, g⟩ := HL.out
      exact ⟨rfl, g⟩
end Go.Proofs.Ytbimaaknjedonaa
