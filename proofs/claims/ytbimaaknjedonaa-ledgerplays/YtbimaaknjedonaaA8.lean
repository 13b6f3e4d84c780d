/- The ledger: a period less (forget). -/
import Derived.Test.YtbimaaknjedonaaA7
namespace Go.Proofs.Ytbimaaknjedonaa
open Go.RowKit Go.Lib Go.Maps
set_option linter.unusedVariables false

/-- The multiple is reckoned anew: what has come so far. -/
def FR (w0 : World) (l b1 b2 r n : Nat) (c s0 s1 : Int) (D2 : DataW Unit) (L : List Wt) (wr : World) : Prop :=
  ∃ (left : Lit → Bool) (cnt : Nat) (m : Int), wr.ranges Try.prog 3 (plainElem Try.prog 3) b2 r n D2 left cnt ∧ LM wr l (.map (some b1)) (.map (some b2)) c s0 s1 m ∧ Ke (fun g => g = l ∨ g = b2) w0 wr ∧
    1 ≤ m ∧ m.natAbs ∣ lcmL L ∧ ∀ q : Int, Maps.has D2 (.int .i64 q) = true → left (.int .i64 q) = false → q.natAbs ∣ m.natAbs
theorem lcm_pos_int {m x : Int} (hm : 1 ≤ m) (hx : 1 ≤ x) : 1 ≤ ((Nat.lcm m.natAbs x.natAbs : Nat) : Int) := by
  have := Nat.lcm_pos (m := m.natAbs) (n := x.natAbs) (by omega) (by omega)
  omega
theorem LM.set5 {W : World} {l : Nat} {m1 m2 : Value} {c s0 s1 s2 : Int} (h : LM W l m1 m2 c s0 s1 s2) (r2 : Int) : LM (W.setCell ⟨l, 5, none⟩ (.int .i64 r2)) l m1 m2 c s0 s1 r2 := by
  obtain ⟨a0, a1, a2, a3, a4, a5, fz⟩ := h
  refine ⟨?_, ?_, ?_, ?_, ?_, ?_, fun o => by simpa using fz o⟩
  all_goals simp [go_sem, a0, a1, a2, a3, a4, a5]
theorem set_block (w : World) (l o : Nat) (v : Value) {g : Nat} (h : g ≠ l) : (w.setCell ⟨l, o, none⟩ v).heap[g]? = w.heap[g]? := Below.heap_setCell _ _ _ _ h
/-- What forget leaves. -/
def ForgetPost (w : World) (l b1 b2 : Nat) (c s0 s1 : Int) (L : List Wt) (w' : World) : Prop :=
  ∃ D2 s2, LM w' l (.map (some b1)) (.map (some b2)) c s0 s1 s2 ∧ w'.ownsMap Try.prog 3 (plainElem Try.prog 3) b2 (Maps.size D2) D2 ∧ MapC D2 L ∧ s2 = ((lcmL L : Nat) : Int) ∧ Ke (fun g => g = l ∨ g = b2) w w'

set_option maxHeartbeats 2000000 in
theorem forget_any {w : World} {l b1 b2 : Nat} {c s0 s1 s2 : Int} {D2 : DataW Unit} {k : Int} {L : List Wt} {x : Wt} (h : LM w l (.map (some b1)) (.map (some b2)) c s0 s1 s2) (o2 : w.ownsMap Try.prog 3 (plainElem Try.prog 3) b2 (Maps.size D2) D2) (m2 : MapC D2 L)
    (ok : Okay k L) (hx : x ∈ L) (hs : s2 = ((lcmL L : Nat) : Int)) (n2 : l ≠ b2) :
    Calls Try.prog 25 #[.pointer (some ⟨l, 0, none⟩), .int .i64 x.p] w fun e w' => e = .returned (.tuple #[]) ∧ ForgetPost w l b1 b2 c s0 s1 (remL x.id L) w' := by
  have rs := (rem_step ok.ids hx).2.2
  have hp0 := (ok.may x hx).p0
  have hp1 := (ok.may x hx).p1
  obtain ⟨p, hp⟩ : ∃ p, x.p = p := ⟨_, rfl⟩
  rw [hp] at rs hp0 hp1 ⊢
  have HP : Hid ((Lit.int .i64 p).wf = true) := wf_small (by omega) (by omega)
  obtain ⟨q, HQ', HQ⟩ : ∃ q : Int, Hid (((cntL p L : Nat) : Int) = q) ∧ Hid (D2.atKey (.int .i64 p) (.lit (.int .i64 0)) = .lit (.int .i64 q)) := ⟨_, rfl, m2.at_ p⟩
  have hq0 : 1 ≤ q := by have := HQ'.out; have := rs p; rw [if_pos rfl] at this; omega
  have hq1 : q ≤ 1073741824 := by have := HQ'.out; have := cntL_le p L; have := len_small ok; omega
  have OX := Lib.hid o2
  have RS := Lib.hid rs
  have OK := Lib.hid ok
  have M2 := Lib.hid m2
  have HX := Lib.hid hx
  have HPX := Lib.hid hp
  have HS := Lib.hid hs
  have A0 := Lib.hid h
  have HS2 : Hid (Maps.size D2 < maxLen) := by have := m2.small ok.may o2; show _ < _; unfold maxLen; omega
  have c2 := h.c2
  clear hs hp hx rs m2 ok o2 h
  by_cases hq : 1 < q
  · have d1 : decide (1 < q) = true := by simp [hq]
    go_enter Try.func25, Try.ntmps25
    go_wp2_with (first
      | (at_lookup; refine wpList_lookup_own_int _ rfl _ _ 52 rfl 3 3 .i64 law3 Try.underlying52 Try.underlying3 (zero3 _) b2 _ D2 rfl OX.out _ _ rfl (keyOf_int_mk Try.underlying3 HP.out) ?_; intro cc hat hwc; obtain rfl : q = cc := (by have := HQ.out.symm.trans hat; cases this; rfl); clear hat hwc)
      | (at_mapUpdate; refine wpList_mapUpdate_in _ rfl _ _ _ 52 rfl 3 3 law3 Try.underlying52 _ b2 (Maps.size D2) D2 rfl OX.out HS2.out _ _ _ rfl rfl (keyOf_int_mk Try.underlying3 HP.out) _ [] (plainElem_int Try.underlying3 (WalkArith.wf_i64 (by omega))) ?_; intro w5 own5 turn5; have OW5 := Lib.hid own5; have TU5 := Lib.hid turn5; clear own5 turn5))
    refine bodyPost_ret (results_none rfl _ _ _) rfl ?_
    have rp := RS.out p
    rw [if_pos rfl] at rp
    have e0 := HQ'.out
    refine ⟨rfl, _, s2, A0.out.keep (turned_block TU5.out A0.out.lt n2), own_tight OW5.out, M2.out.turn OX.out.isMap p (by omega) (fun z hz => ?_) (by omega), ?_, turned_ke TU5.out (.inr rfl)⟩
    · have := RS.out z
      rw [if_neg (Ne.symm hz)] at this
      omega
    · rw [HS.out]
      congr 1
      refine lcmL_congr (fun y hy => ?_) (fun y hy => ⟨y, (mem_remL.1 hy).1, rfl⟩)
      by_cases e : y.id = x.id
      · obtain ⟨z, hz, ez⟩ := cntL_pos.1 (show 0 < cntL p (remL x.id L) by omega)
        refine ⟨z, hz, ?_⟩
        have : y = x := by
          refine Classical.byContradiction fun ne => ?_
          exact absurd e (by
            have := OK.out.ids
            unfold Ids at this
            rcases List.pairwise_iff_getElem.1 this with hpw
            obtain ⟨i, hi, rfl⟩ := List.getElem_of_mem hy
            obtain ⟨j, hj, rfl⟩ := List.getElem_of_mem HX.out
            rcases Nat.lt_trichotomy i j with c | c | c
            · exact hpw i j hi hj c
            · subst c; exact absurd rfl ne
            · exact Ne.symm (hpw j i hj hi c))
        rw [this, ez, HPX.out]
      · exact ⟨y, mem_remL.2 ⟨hy, e⟩, rfl⟩
  · obtain rfl : 1 = q := by omega
    obtain ⟨D3, hD3⟩ : ∃ D3, D2.del (.int .i64 p) = D3 := ⟨_, rfl⟩
    have HD3 := Lib.hid hD3
    have M3 : Hid (MapC D3 (remL x.id L)) := by
      rw [Hid, ← hD3]
      refine M2.out.out p ?_ (fun z hz => ?_)
      · have rp := RS.out p
        rw [if_pos rfl] at rp
        have := HQ'.out
        omega
      · have := RS.out z
        rw [if_neg (Ne.symm hz)] at this
        omega
    have OK' := Lib.hid (OK.out.rem (i := x.id))
    obtain ⟨n, hn⟩ : ∃ n, Maps.size D2 = n := ⟨_, rfl⟩
    rw [hn] at OX
    clear hD3 hn
    go_enter Try.func25, Try.ntmps25
    go_wp2_with (first
      | (at_lookup; refine wpList_lookup_own_int _ rfl _ _ 52 rfl 3 3 .i64 law3 Try.underlying52 Try.underlying3 (zero3 _) b2 _ D2 rfl OX.out _ _ rfl (keyOf_int_mk Try.underlying3 HP.out) ?_; intro cc hat hwc; obtain rfl : 1 = cc := (by have := HQ.out.symm.trans hat; cases this; rfl); clear hat hwc)
      | (at_delete; refine wpList_delete_own _ rfl _ _ 52 3 rfl 3 law3 Try.underlying52 _ b2 _ D2 rfl OX.out _ _ rfl (keyOf_int_mk Try.underlying3 HP.out) ?_; intro w3 own3 turn3; rw [HD3.out] at own3; have OW3 := Lib.hid own3; have TU3 := Lib.hid turn3; have A3 := Lib.hid (A0.out.keep (turned_block turn3 A0.out.lt n2)); clear own3 turn3; have c2 := A3.out.c2; have c5 := A3.out.c5; have z5 := A3.out.fz 5)
      | (at_range; refine wpList_range_own _ rfl _ 52 rfl 3 3 law3 Try.underlying52 _ b2 _ D3 rfl (OW3.out.setCell (Ne.symm n2) _) ?_; intro w4 hrg0 hg0 hs0))
    have A4 : Hid (LM w4 l (.map (some b1)) (.map (some b2)) c s0 s1 1) := (A3.out.set5 1).keep (hg0.block l (by simpa [World.setCell] using A3.out.lt) (by simp))
    have K4 : Hid (Ke (fun g => g = l ∨ g = b2) w w4) := (((turned_ke TU3.out (.inr rfl)).set (p := ⟨l, 5, none⟩) (.inl (.inl rfl)) _).grown hg0 (fun k hk => by cases hk))
    have RG := Lib.hid hrg0
    have hsz : w.heap.size ≤ w3.heap.size := (turned_ke (F := fun g => g = b2) TU3.out rfl).size
    have e3 : (w3.setCell ⟨l, 5, none⟩ (.int .i64 1)).heap.size = w3.heap.size := by simp [World.setCell]
    rw [e3] at RG
    obtain ⟨r, hr⟩ : ∃ r, w3.heap.size = r := ⟨_, rfl⟩
    rw [hr] at RG hsz ⊢
    have hlr : l < r := by rw [← hr]; exact A3.out.lt
    clear hrg0 hg0 hs0 c2 c5 z5 e3 hr
    go_loopw [4] (fun _ wr => FR w l b1 b2 r n c s0 s1 D3 (remL x.id L) wr) (fun _ wr => wr.rangeLeft b2 r)
    case atStart =>
      refine ⟨_, _, 1, RG.out, A4.out, K4.out, Int.le_refl _, Nat.one_dvd _, fun q a b => ?_⟩
      rw [a] at b; cases b
    case round =>
      obtain ⟨left, cnt, m, hrg, lm, ke, hm1, hdv, hall⟩ := hrel
      have hr2 := hrg.ne
      have hrl := hrg.lt
      have hbl := hrg.owns.lt
      have KE := Lib.hid ke
      have RG' := Lib.hid hrg
      have LMr := Lib.hid lm
      have HDV := Lib.hid hdv
      have HALL := Lib.hid hall
      clear ke hrg lm hdv hall RG A4 K4
      go_wp2_with (at_next; refine wpList_next_ranges_ii _ rfl _ rfl 3 3 .i64 .i64 law3 Try.underlying3 Try.underlying3 b2 r n _ _ _ rfl RG'.out ?_ ?_)
      · intro _ hl0
        go_wp2
        go_end0
        refine ⟨rfl, D3, m, LMr.out, own_tight RG'.out.owns, M3.out, ?_, KE.out⟩
        have : m.natAbs = lcmL (remL x.id L) := Nat.dvd_antisymm HDV.out (lcmL_min fun y hy => HALL.out y.p ((M3.out.has y.p).2 (cntL_pos.2 ⟨y, hy, rfl⟩)) (hl0 _))
        omega
      · intro z cz w1 cnt1 hwx hwc hlx hat hrg1 hlt hg1 hs1 hen
        have hz := cntL_pos.1 ((M3.out.has z).1 (has_true_of_atKey hat))
        have hzb : 1 ≤ z ∧ z ≤ 1048575 ∧ z.natAbs ∣ lcmL (remL x.id L) := by
          obtain ⟨y, hy, rfl⟩ := hz
          exact ⟨(OK'.out.may y hy).p0, (OK'.out.may y hy).p1, lcmL_dvd hy⟩
        have hmb : m ≤ 16777216 := by
          have := Nat.le_of_dvd (lcmL_pos OK'.out.may) HDV.out
          have := OK'.out.lcm
          omega
        have lm1 := LMr.out.keep (hg1.block l LMr.out.lt (fun e => by cases e; omega))
        have c5 := lm1.c5
        have L1 := Lib.hid lm1
        have K1 := Lib.hid (KE.out.grown hg1 (fun k hk => by cases hk; exact .inr hsz))
        have R1 := Lib.hid hrg1
        have HZ := Lib.hid hzb
        have HLT := Lib.hid hlt
        have HWX := Lib.hid hwx
        clear lm1 hrg1 hzb hz hlt hwx hat hg1 hs1 hlx
        obtain ⟨v, hv⟩ : ∃ v : Int, ((Nat.lcm m.natAbs z.natAbs : Nat) : Int) = v := ⟨_, rfl⟩
        have HVV := Lib.hid hv
        clear hv
        go_wp2_with fail
        refine (lcmG m z v _ hm1 hmb HZ.out.1 HZ.out.2.1 HVV.out).mono ?_
        rintro e w2 ⟨rfl, g2⟩
        have lm2 := L1.out.keep (g2.block l L1.out.lt (fun f => f))
        have R2 := Lib.hid (ranges_keep R1.out (g2.block b2 R1.out.owns.lt (fun f => f)) (g2.block r R1.out.lt (fun f => f)))
        have K2 := Lib.hid (K1.out.gr g2)
        have c5 := lm2.c5
        have z5 := lm2.fz 5
        have L2 := Lib.hid lm2
        clear lm2 g2 hen
        go_wp2
        go_roundw
        case rel =>
          have hvv := HVV.out
          have vz : v.natAbs = Nat.lcm m.natAbs z.natAbs := by omega
          refine ⟨_, cnt1, v, ranges_keep R2.out (set_block _ _ _ _ (Ne.symm n2)) (set_block _ _ _ _ (by omega)), L2.out.set5 v, K2.out.set (p := ⟨l, 5, none⟩) (.inl (.inl rfl)) _, by rw [← hvv]; exact lcm_pos_int hm1 HZ.out.1, by rw [vz]; exact Nat.lcm_dvd HDV.out HZ.out.2.2, fun q a b => ?_⟩
          rw [vz]
          by_cases e : q = z
          · subst e; exact Nat.dvd_lcm_right _ _
          · have : left (.int .i64 q) = false := by
              rw [sameKey_ne (lit_ne e)] at b
              simpa using b
            exact Nat.dvd_trans (HALL.out q a this) (Nat.dvd_lcm_left _ _)
        case measure =>
          rw [(ranges_keep R2.out (set_block _ _ _ _ (Ne.symm n2)) (set_block _ _ _ _ (by omega))).left_eq, RG'.out.left_eq]; exact HLT.out
end Go.Proofs.Ytbimaaknjedonaa
