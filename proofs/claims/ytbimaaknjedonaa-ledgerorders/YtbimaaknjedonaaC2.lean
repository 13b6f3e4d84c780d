/- LedgerOrders walked. -/
import Derived.Test.YtbimaaknjedonaaC1
namespace Go.Proofs.Ytbimaaknjedonaa
open Go.RowKit Go.Lib Go.Maps
set_option linter.unusedVariables false

/-- Pairs that came in. -/
def PairsAt (w : World) (b off n : Nat) (qa qb : Nat → Int) : Prop :=
  ∀ i, i < n → w.cell? ⟨b, off + i * 2, none⟩ = some (.int .u8 (qa i)) ∧ w.cell? ⟨b, off + i * 2 + 1, none⟩ = some (.int .u8 (qb i)) ∧ 0 ≤ qa i ∧ qa i ≤ 255 ∧ 0 ≤ qb i ∧ qb i ≤ 255
theorem PairsAt.gr {w w' : World} {b off n : Nat} {qa qb : Nat → Int} (h : PairsAt w b off n qa qb) (g : Gr w w') : PairsAt w' b off n qa qb := fun i hi =>
  ⟨kcell g (h i hi).1, kcell g (h i hi).2.1, (h i hi).2.2⟩

set_option maxHeartbeats 1000000 in
theorem add18 {w0 W : World} {x y : Lg} {b off n c B0 i : Nat} {qa qb : Nat → Int} (h : T2 w0 W x y) (hb : W.cell? ⟨B0, 0, none⟩ = some (.slice (some ⟨b, off, none⟩) n c)) (hp : PairsAt W b off n qa qb) (hi : i < n) (hn : n ≤ 60)
    (ha : addV x.k x.L (i : Int) (Wi qa qb i).e (Wi qa qb i).p = 0) :
    Calls Try.prog 18 #[.pointer (some ⟨x.l, 0, none⟩), .int .i64 (i : Int), .pointer (some ⟨B0, 0, none⟩)] W fun r w' => r = .returned (.bool true) ∧ T2 w0 w' ⟨x.l, x.k, x.L ++ [Wi qa qb i]⟩ y := by
  obtain ⟨ca, cb, a0, a1, b0, b1⟩ := hp i hi
  obtain ⟨u, hu⟩ : ∃ u, qa i = u := ⟨_, rfl⟩
  obtain ⟨v, hv⟩ : ∃ v, qb i = v := ⟨_, rfl⟩
  have eW : Wi qa qb i = ⟨(i : Int), 1 + u % (1 + v % 12), 1 + v % 12⟩ := by unfold Wi; rw [hu, hv]
  rw [hu] at ca a0 a1
  rw [hv] at cb b0 b1
  rw [eW] at ha ⊢
  simp only at ha
  obtain ⟨r1, hr1⟩ : ∃ r, v % 12 = r := ⟨_, rfl⟩
  have hr1' : v.tmod 12 = r1 := by rw [Int.tmod_eq_emod_of_nonneg b0]; exact hr1
  have k1 : 0 ≤ r1 ∧ r1 ≤ 11 := by omega
  rw [hr1] at ha ⊢
  obtain ⟨p, hp'⟩ : ∃ p, 1 + r1 = p := ⟨_, rfl⟩
  rw [hp'] at ha ⊢
  have p0 : 1 ≤ p := by omega
  have p1 : p ≤ 12 := by omega
  obtain ⟨r2, hr2⟩ : ∃ r, u % p = r := ⟨_, rfl⟩
  have hr2' : u.tmod p = r2 := by rw [Int.tmod_eq_emod_of_nonneg a0]; exact hr2
  have k2 : 0 ≤ r2 := by rw [← hr2]; exact Int.emod_nonneg _ (by omega)
  have k3 : r2 < p := by rw [← hr2]; exact Int.emod_lt_of_pos _ (by omega)
  rw [hr2] at ha ⊢
  obtain ⟨e, he⟩ : ∃ e, 1 + r2 = e := ⟨_, rfl⟩
  rw [he] at ha ⊢
  have C := Lib.hid (t2_add h (i : Int) e p 0 (wfi (by omega) (by omega)) ha)
  have pz : ¬ p = 0 := by omega
  have hin : (i : Int) < (n : Int) := by omega
  clear h ha eW hu hv hp
  go_enter Try.func18, Try.ntmps18
  go_wp2_with fail
  refine C.out.mono ?_
  rintro x w2 ⟨rfl, h2⟩
  have H := Lib.hid h2
  clear h2 C
  go_wp2
  go_ret
  exact ⟨rfl, H.out⟩

def O1 (w1 : World) (la lb n t : Nat) (qa qb : Nat → Int) (s : Value) (wr : World) : Prop :=
  ∃ i : Nat, s = .int .i64 (i : Nat) ∧ i ≤ n ∧ T2 w1 wr ⟨la, 64, rowL qa qb (fun j => j) i⟩ ⟨lb, 64, rowL qa qb (tf n t) i⟩
def O2 (w1 : World) (la lb n t : Nat) (qa qb : Nat → Int) (s : Value) (wr : World) : Prop :=
  ∃ i : Nat, s = .int .i64 (i : Nat) ∧ i ≤ n + 1 ∧ i % 2 = 0 ∧ T2 w1 wr ⟨la, 64, (rowL qa qb (fun j => j) n).filter (upB i)⟩ ⟨lb, 64, rowL qa qb (tf n t) n⟩
def O3 (w1 : World) (la lb n t : Nat) (qa qb : Nat → Int) (s : Value) (wr : World) : Prop :=
  ∃ i : Int, s = .int .i64 i ∧ -2 ≤ i ∧ i < n ∧ i % 2 = 0 ∧ T2 w1 wr ⟨lb, 64, (rowL qa qb (tf n t) n).filter (dnB i)⟩ ⟨la, 64, (rowL qa qb (fun j => j) n).filter odd⟩

set_option maxHeartbeats 4000000 in
theorem orders_walk (b off n c t : Nat) (qa qb : Nat → Int) (w : World) (h0 : 0 < n) (hn : n ≤ 60) (ht : t ≤ 255) (hq : PairsAt w b off n qa qb) :
    Calls Try.prog 5 #[.slice (some ⟨b, off, none⟩) n c, .int .u8 (t : Int)] w fun x w' => x = .returned (.bool true) ∧ Gr w w' := by
  have d1 : ((n : Int) == 0) = false := by simp; omega
  have d2 : decide ((60 : Int) < (n : Int)) = false := by simp; omega
  have d3 : ¬ (n : Int) = 0 := by omega
  have d4 : ¬ n = 0 := by omega
  have d5 : ¬ (60 : Int) < (n : Int) := by omega
  have hmf : ∀ (fn : Fn) (first cap : Array Value) (w : World), (Instr.makeFunc fn first cap).run Try.prog w = .ok (.func fn first cap) w := fun _ _ _ _ => rfl
  have HQ := Lib.hid hq
  clear hq
  go_enter Try.func5, Try.ntmps5
  go_wp2_with fail
  refine (awake8 _).mono ?_
  rintro x w1 ⟨rfl, g1⟩
  have cb1 : w1.cell? ⟨w.heap.size, 0, none⟩ = some (.slice (some ⟨b, off, none⟩) n c) := kcell g1 (by simp [go_sem])
  have CB := Lib.hid cb1
  have G1 : Hid (Gr w w1) := ((Ke.refl _ w).alloc _).gr g1
  have PA := Lib.hid (HQ.out.gr G1.out)
  have hlt1 : w.heap.size < w1.heap.size := cell_lt cb1
  clear g1 HQ
  generalize w.heap.size = B0 at CB cb1 hlt1 ⊢
  go_wp2_with fail
  refine (new_any 64 _).mono ?_
  rintro x w2 ⟨rfl, hw⟩
  subst hw
  go_wp2_with fail
  refine (new_any 64 _).mono ?_
  rintro x w2 ⟨rfl, hw⟩
  subst hw
  have H := Lib.hid (t2_new (Ke.refl _ w1) 64 64)
  have e1 : (w1.alloc (LO 64)).heap.size = w1.heap.size + 1 := by simp
  have ec : cut 64 = 64 := by decide
  rw [ec] at H
  try simp only [e1]
  generalize (w1.alloc (LO 64)).alloc (LO 64) = w2 at H ⊢
  obtain ⟨lb, hlb⟩ : ∃ z, w1.heap.size + 1 = z := ⟨_, rfl⟩
  obtain ⟨la, hla⟩ : ∃ l, w1.heap.size = l := ⟨_, rfl⟩
  simp only [hlb] at H ⊢
  simp only [hla] at H ⊢
  clear e1 ec hla hlb cb1 hlt1
  go_wp2_with fail
  go_loopw [8] (fun s wr => O1 w1 la lb n t qa qb s wr) (fun s _ => n - (RowKit.intOf s).toNat)
  case atStart => exact ⟨0, rfl, by omega, H.out⟩
  case round =>
    obtain ⟨i, rfl, hin, h⟩ := hrel
    have HT := Lib.hid h
    have cbr := kcell h.out CB.out
    clear h H
    by_cases hi : i < n
    · have q1 : decide ((i : Int) < (n : Int)) = true := by simp; omega
      have q2 : (i : Int) < (n : Int) := by omega
      have A1 := Lib.hid (add18 HT.out cbr (PA.out.gr HT.out.out) hi hn (rowL_add (f := fun j => j) hi hn (fun a b _ _ e => e)))
      obtain ⟨j, hj⟩ : ∃ j, tf n t i = j := ⟨_, rfl⟩
      have hjn : j < n := by rw [← hj]; exact tf_lt (by omega) i
      have hj1 : ((i : Int) + (t : Int)) % (n : Int) = (j : Int) := by rw [← hj]; unfold tf; simp
      have hj2 : ((i : Int) + (t : Int)).tmod (n : Int) = (j : Int) := by rw [Int.tmod_eq_emod_of_nonneg (by omega)]; exact hj1
      have HJ := Lib.hid hj
      clear hj
      go_wp2_with fail
      refine A1.out.mono ?_
      rintro x w3 ⟨rfl, h3⟩
      have H3 := Lib.hid h3.swap
      clear h3 A1 HT cbr
      have cbr := kcell H3.out.out CB.out
      have A2 := Lib.hid (add18 H3.out cbr (PA.out.gr H3.out.out) hjn hn (by have := rowL_add (qa := qa) (qb := qb) (f := tf n t) hi hn tf_inj; rw [HJ.out] at this; exact this))
      go_wp2_with fail
      refine A2.out.mono ?_
      rintro x w4 ⟨rfl, h4⟩
      have H4 := Lib.hid h4.swap
      clear h4 A2 H3 cbr
      go_wp2
      go_roundw
      case rel => exact ⟨i + 1, rfl, by omega, by rw [rowL_succ, rowL_succ, HJ.out]; exact H4.out⟩
      case measure => simp [RowKit.intOf]; omega
    · obtain rfl : i = n := by omega
      have HT2 := Lib.hid HT.out
      clear HT
      have q1 : decide ((i : Int) < (i : Int)) = false := by simp
      go_wp2_with fail
      go_loopw [9] (fun s wr => O2 w1 la lb i t qa qb s wr) (fun s _ => i - (RowKit.intOf s).toNat)
      case atStart =>
        have e8 : (rowL qa qb (fun j => j) i).filter (upB ((0 : Nat) : Int)) = rowL qa qb (fun j => j) i := up_start (L := rowL qa qb (fun j => j) i) (fun x hx => (rowL_id (fun a h => h) x hx).1)
        exact ⟨0, rfl, by omega, rfl, by rw [e8]; exact HT2.out⟩
      case round =>
        obtain ⟨j, rfl, hjn, hj2, h⟩ := hrel
        have HT := Lib.hid h
        have cbr := kcell h.out CB.out
        clear h HT2
        by_cases hj : j < i
        · have q2 : decide ((j : Int) < (i : Int)) = true := by simp; omega
          have q3 : (j : Int) < (i : Int) := by omega
          have D := Lib.hid (t2_drop HT.out (j : Int) (wfi (by omega) (by omega)))
          go_wp2_with fail
          refine D.out.mono ?_
          rintro x w3 ⟨rfl, h3⟩
          have H3 := Lib.hid h3
          clear h3 D HT cbr
          go_wp2
          go_roundw
          case rel => exact ⟨j + 2, rfl, by omega, by omega, by have := H3.out; rw [up_step (by omega)] at this; exact this⟩
          case measure => simp [RowKit.intOf]; omega
        · have q2 : decide ((j : Int) < (i : Int)) = false := by simp; omega
          have q3 : ¬ (j : Int) < (i : Int) := by omega
          have e9 := up_end (L := rowL qa qb (fun j => j) i) (i := (j : Int)) (n := (i : Int)) (fun x hx => (rowL_id (fun a h => h) x hx).2) (by omega)
          rw [e9] at HT
          obtain ⟨m1, hm1⟩ : ∃ m : Int, (i : Int) - 1 = m := ⟨_, rfl⟩
          have m10 : 0 ≤ m1 ∧ m1 ≤ 59 := by omega
          obtain ⟨m2, hm2⟩ : ∃ m : Int, m1 / 2 = m := ⟨_, rfl⟩
          have hm2' : m1.tdiv 2 = m2 := by rw [Int.tdiv_eq_ediv_of_nonneg m10.1]; exact hm2
          have m20 : 0 ≤ m2 ∧ m2 ≤ 30 := by omega
          obtain ⟨m3, hm3⟩ : ∃ m : Int, m2 * 2 = m := ⟨_, rfl⟩
          have m30 : 0 ≤ m3 ∧ m3 < i ∧ (i : Int) - 2 ≤ m3 ∧ m3 % 2 = 0 := by omega
          have M3 := Lib.hid m30
          clear e9
          go_wp2_with fail
          go_loopw [10] (fun s wr => O3 w1 la lb i t qa qb s wr) (fun s _ => (RowKit.intOf s + 2).toNat)
          case atStart =>
            have e8 := dn_start (L := rowL qa qb (tf i t) i) (i := m3) (n := (i : Int)) (fun x hx => (rowL_id (fun a h => tf_lt (by omega) a) x hx).2) M3.out.2.2.1 M3.out.2.2.2
            exact ⟨m3, rfl, by have := M3.out; omega, M3.out.2.1, M3.out.2.2.2, by rw [e8]; exact HT.out.swap⟩
          case round =>
            obtain ⟨z, rfl, z0, z1, z2, h⟩ := hrel
            have HZ := Lib.hid h
            have cbz := kcell h.out CB.out
            have Z2 := Lib.hid z2
            clear h HT cbr hm1 hm2 hm2' hm3 z2
            by_cases hz : 0 ≤ z
            · have q4 : decide (0 ≤ z) = true := by simp [hz]
              have D := Lib.hid (t2_drop HZ.out z (wfi (by omega) (by omega)))
              go_wp2_with fail
              refine D.out.mono ?_
              rintro x w3 ⟨rfl, h3⟩
              have H3 := Lib.hid h3
              clear h3 D HZ cbz
              go_wp2
              go_roundw
              case rel => exact ⟨z - 2, rfl, by omega, by omega, by have := Z2.out; omega, by have := H3.out; rw [dn_step Z2.out] at this; exact this⟩
              case measure => simp [RowKit.intOf]; omega
            · have q4 : decide (0 ≤ z) = false := by simp; omega
              have e9 := dn_end (L := rowL qa qb (tf i t) i) (i := z) (fun x hx => (rowL_id (fun a h => tf_lt (by omega) a) x hx).1) (by omega)
              rw [e9] at HZ
              have PE := (rowL_perm (qa := qa) (qb := qb) (f := tf i t) (n := i) tf_inj (tf_sur h0) (fun a _ => tf_lt h0 a)).filter odd
              have ES := sumL_perm PE
              have EL := lcmL_perm PE
              have EN := PE.length_eq
              have NL := odd_len (qa := qa) (qb := qb) i
              obtain ⟨N, hN⟩ : ∃ N : Int, (sumL ((rowL qa qb (fun j => j) i).filter odd)).num = N := ⟨_, rfl⟩
              obtain ⟨D, hD⟩ : ∃ D : Int, ((sumL ((rowL qa qb (fun j => j) i).filter odd)).den : Int) = D := ⟨_, rfl⟩
              obtain ⟨M, hM⟩ : ∃ M : Int, ((lcmL ((rowL qa qb (fun j => j) i).filter odd) : Nat) : Int) = M := ⟨_, rfl⟩
              obtain ⟨n2, hn2⟩ : ∃ n2 : Nat, i / 2 = n2 := ⟨_, rfl⟩
              have CS : Hid (∀ l, l = la ∨ l = lb → ∀ W, Gr wr W → Calls Try.prog 14 #[.pointer (some ⟨l, 0, none⟩)] W fun r w' => r = .returned (.agg #[.int .i64 N, .int .i64 D]) ∧ Gr W w') := fun l hl W g => by
                rcases hl with rfl | rfl
                · exact t2_sum (HZ.out.swap.gr g) hN hD
                · exact t2_sum (HZ.out.gr g) (by rw [← ES]; exact hN) (by rw [← ES]; exact hD)
              have CM : Hid (∀ l, l = la ∨ l = lb → ∀ W, Gr wr W → Calls Try.prog 16 #[.pointer (some ⟨l, 0, none⟩)] W fun r w' => r = .returned (.int .i64 M) ∧ Gr W w') := fun l hl W g => by
                rcases hl with rfl | rfl
                · exact t2_lcm (HZ.out.swap.gr g) hM
                · exact t2_lcm (HZ.out.gr g) (by rw [← EL]; exact hM)
              have CN : Hid (∀ l, l = la ∨ l = lb → ∀ W, Gr wr W → Calls Try.prog 13 #[.pointer (some ⟨l, 0, none⟩)] W fun r w' => r = .returned (.int .i64 (n2 : Nat)) ∧ Gr W w') := fun l hl W g => by
                rcases hl with rfl | rfl
                · exact t2_len (HZ.out.swap.gr g) (NL.trans hn2)
                · exact t2_len (HZ.out.gr g) ((EN.symm.trans NL).trans hn2)
              have hd1 : (i : Int) / 2 = (n2 : Int) := by omega
              have hd2 : (i : Int).tdiv 2 = (n2 : Int) := by rw [Int.tdiv_eq_ediv_of_nonneg (by omega)]; exact hd1
              have gk := gw_cell cbz
              have hne := gw_ne (Ke.refl (fun _ => False) wr)
              have hself := gw_all (Ke.refl (fun _ => False) wr)
              have GZ := Lib.hid HZ.out.out
              clear PE ES EL EN NL hN hD hM hn2 e9 HZ cbz
              go_upto_region 22 with fail
              refine wp_region_gw (by kernel_rfl) (by kernel_rfl) ?_
              repeat (go_big_quiet_step (first | (go_at_call 14; exact gw_of (CS.out _ (by first | exact .inl rfl | exact .inr rfl) _ (GW.gr _))) | (go_at_call 16; exact gw_of (CM.out _ (by first | exact .inl rfl | exact .inr rfl) _ (GW.gr _))) | (go_at_call 13; exact gw_of (CN.out _ (by first | exact .inl rfl | exact .inr rfl) _ (GW.gr _)))))
              refine wpQuiet_nil ?_
              intro _ hw'
              obtain ⟨pp, hw''⟩ := hw'
              subst hw''
              go_wp2
              go_ret
              exact ⟨rfl, (G1.out.gr GZ.out).gr pp.gr⟩
end Go.Proofs.Ytbimaaknjedonaa
