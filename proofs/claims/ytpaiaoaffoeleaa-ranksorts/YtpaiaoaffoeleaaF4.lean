/- The law RankSorts walked: of a slice of one to 200 ranks; of none; of more. -/
import Derived.Test.YtpaiaoaffoeleaaE4
import Derived.Test.YtpaiaoaffoeleaaS4
import Derived.Deep.DeepCutAuto
import Derived.Deep.CutBlock
namespace Go.Proofs.Ytpaiaoaffoeleaa
open Go.Shelf Go.RowKit Go.Lib Go.Sort
set_option linter.unusedVariables false
structure OwnsY (y x : Rk) (t k : Nat) (wr : World) (sB gw gm b off : Nat) : Prop where
  s0 : wr.cell? ⟨sB, t * 4, none⟩ = some (.int .i64 y.d)
  s1 : wr.cell? ⟨sB, t * 4 + 1, none⟩ = some (.int .i64 y.b)
  s2 : wr.cell? ⟨sB, t * 4 + 2, none⟩ = some (.int .i64 y.g)
  s3 : wr.cell? ⟨sB, t * 4 + 3, none⟩ = some (.int .i64 y.i)
  w0 : wr.cell? ⟨gw, t * 4, none⟩ = some (.int .i64 y.d)
  w1 : wr.cell? ⟨gw, t * 4 + 1, none⟩ = some (.int .i64 y.b)
  w2 : wr.cell? ⟨gw, t * 4 + 2, none⟩ = some (.int .i64 y.g)
  w3 : wr.cell? ⟨gw, t * 4 + 3, none⟩ = some (.int .i64 y.i)
  m0 : wr.cell? ⟨gm, t * 4, none⟩ = some (.int .i64 x.d)
  m1 : wr.cell? ⟨gm, t * 4 + 1, none⟩ = some (.int .i64 x.b)
  m2 : wr.cell? ⟨gm, t * 4 + 2, none⟩ = some (.int .i64 x.g)
  m3 : wr.cell? ⟨gm, t * 4 + 3, none⟩ = some (.int .i64 x.i)
  l0 : wr.cell? ⟨b, off + t * 4, none⟩ = some (.int .i64 x.d)
  l1 : wr.cell? ⟨b, off + t * 4 + 1, none⟩ = some (.int .i64 x.b)
  l2 : wr.cell? ⟨b, off + t * 4 + 2, none⟩ = some (.int .i64 x.g)
  l3 : wr.cell? ⟨b, off + t * 4 + 3, none⟩ = some (.int .i64 x.i)

set_option maxRecDepth 100000 in
set_option maxHeartbeats 8000000 in
theorem walkC (b off n cap : Nat) (q : List Rk) (w : World) (hq : q.length = n) (h0 : 0 < n) (h200 : n ≤ 200) (hc : CellsIn w b off q) :
    Calls Try.prog 4 #[.slice (some ⟨b, off, none⟩) n cap] w fun e w' => e = .returned (.bool true) ∧ Below w.heap.size w w' := by
  obtain ⟨i26, hi26, hs26, hb26, hz26⟩ := info26
  obtain ⟨i23, hi23, hs23, hb23, hz23⟩ := info23
  have I26 := Lib.hid (And.intro hi26 (And.intro hs26 (And.intro hb26 hz26)))
  have I23 := Lib.hid (And.intro hi23 (And.intro hs23 (And.intro hb23 hz23)))
  have HQ := Lib.hid hq
  have HC := Lib.hid hc
  have hbl := hc.lt
  clear hi26 hs26 hb26 hz26 hi23 hs23 hb23 hz23 hq hc
  have hd : decide ((n : Int) > 200) = false := by simp; omega
  have mixed : Try.prog.follows .mixedOrders = true := by kernel_rfl
  go_enter Try.func4, Try.ntmps4
  go_wp2_with fail
  refine (awake_true _).mono ?_
  rintro e w1 ⟨rfl, g1⟩
  have G1 : Aside (Below w.heap.size w w1) := g1.below
  clear g1
  go_wp2_with fail
  go_loopg [3, 4] n (fun kx s3 s4 wr => ∃ (k : Nat) (v : Value), v = s3 ∧ s4 = .int .i64 k ∧ k ≤ n ∧ n - k ≤ kx ∧ Aside (Own w.heap.size 26 wr v (q.take k)) ∧ Aside (Below w.heap.size w wr))
  case atStart => exact ⟨0, _, rfl, rfl, by omega, by omega, Own.nil _ _ _, G1⟩
  case round =>
    clear G1
    obtain ⟨k, v, rfl, rfl, hk, hkx, OW, BL⟩ := hrel
    by_cases hlt : k < n
    · have hltz : (k : Int) < (n : Int) := by omega
      obtain ⟨x, hx⟩ : ∃ x, x = q[k]'(by rw [HQ.out]; exact hlt) := ⟨_, rfl⟩
      have hin := HC.out.keep BL.out hbl BL.out.size
      have c0 := hin.c0 k (by rw [HQ.out]; exact hlt); have c1 := hin.c1 k (by rw [HQ.out]; exact hlt); have c2 := hin.c2 k (by rw [HQ.out]; exact hlt); have c3 := hin.c3 k (by rw [HQ.out]; exact hlt)
      rw [← hx] at c0 c1 c2 c3
      have HX := Lib.hid hx
      clear hin hx
      obtain ⟨xd, xb, xg, xi⟩ := x
      go_wp2_with fail
      refine (made_any ⟨xd, xb, xg, xi⟩ _).mono ?_
      rintro e w2 ⟨rfl, g2⟩
      have OWN2 : Hid (w2.ownsRow w.heap.size 26 4 v k (flatL (q.take k))) := by
        have := OW.out.gr g2
        unfold Own at this
        rwa [List.length_take, HQ.out, show min k n = k by omega] at this
      have BL2 : Aside (Below w.heap.size w w2) := below_of_gr BL.out g2 BL.out.size
      have hsz : w.heap.size ≤ (w2.alloc (.cells #[.int .i64 xd, .int .i64 xb, .int .i64 xg, .int .i64 xi] 26)).heap.size := by have := BL2.out.size; simp; omega
      clear c0 c1 c2 c3 g2 OW BL
      go_wp2_with (at_builtin; refine wpList_append_own _ rfl (.tmp 21) (.tmp 27) 34 rfl w.heap.size 26 i26 (.agg #[.int .i64 0, .int .i64 0, .int .i64 0, .int .i64 0]) 4 32 Try.underlying34 I26.out.1 I26.out.2.2.2 I26.out.2.1 I26.out.2.2.1 rfl (by decide) v k (flatL (q.take k)) rfl (OWN2.out.alloc _) ⟨w2.heap.size, 0, none⟩ 1 1 (encQ ⟨xd, xb, xg, xi⟩) rfl rfl (cell_four_new w2 ⟨xd, xb, xg, xi⟩ 26) (encQ_one _) (by unfold maxLen; omega) (by omega) hsz ?_)
      intro v' w3 hown hgrow hnil
      have OW3 : Aside (Own w.heap.size 26 w3 v' (q.take (k + 1))) := own_snoc (by rw [HQ.out]; exact hlt) (by rw [← HX.out]; exact hown)
      have BL3 : Aside (Below w.heap.size w w3) := (BL2.out.alloc BL2.out.size _).grown hgrow hsz (fun j hj => (OWN2.out.lt j hj).1)
      clear hown hgrow hnil OWN2 BL2 hsz
      go_wp2
      go_roundg (n - (k + 1))
      case measure => omega
      case rel => exact ⟨k + 1, v', rfl, by go_num, by omega, Nat.le_refl _, OW3, BL3⟩
    · have hltz : ¬ (k : Int) < (n : Int) := by omega
      obtain rfl : k = n := by omega
      have OQ : Own w.heap.size 26 wr v q := by
        have := OW.out
        rwa [List.take_of_length_le (by rw [HQ.out]; exact Nat.le_refl _)] at this
      obtain ⟨gm, cm, om⟩ := OQ.at (by rw [HQ.out]; exact h0)
      have hv := om.v
      rw [HQ.out] at hv
      subst hv
      have cs := sort_some gm 0 cm q.toArray wr om.holds om.lt (by simp [HQ.out]; omega)
      rw [show q.toArray.size = k by simp [HQ.out]] at cs
      have CS := Lib.hid cs
      have OM := Lib.hid om
      clear cs om OQ OW
      go_wp2_with fail
      refine CS.out.mono ?_
      rintro e w3 ⟨rfl, st⟩
      have ST : Aside (SortedTo wr q.toArray w3) := st
      clear st CS
      obtain ⟨r, hr1, hr2, hr3, hr4⟩ := ST.out
      have BS : Aside (Below w.heap.size w w3) := below_of_gr BL.out hr4 BL.out.size
      have hsw : w.heap.size ≤ w3.heap.size := BS.out.size
      have hswr : wr.heap.size ≤ w3.heap.size := hr4.size
      have OM3 : Aside (OwnAt w.heap.size w3 (.slice (some ⟨gm, 0, none⟩) k cm) q gm cm) := OM.out.keep hr4
      have R1 := Lib.hid hr1
      have R2 := Lib.hid hr2
      have R3 := Lib.hid hr3
      have hsb : wr.heap.size < w3.heap.size := by
        have := (row_cell hr3 0 (by rw [hr2]; simp [HQ.out]; omega)).1
        exact lt_of_cell this
      clear hr1 hr2 hr3 hr4 ST BL OM
      generalize wr.heap.size = sB at *
      go_wp2_with fail
      go_loopg [6, 7] k (fun ky s6 s7 wr => ∃ (i : Nat) (vw : Value) (W : List (Rk × Nat)), vw = s6 ∧ s7 = .int .i64 i ∧ i ≤ k ∧ k - i ≤ ky ∧ Aside (Own w3.heap.size 23 wr vw (W.map (·.1))) ∧ Aside (WantAt q i W) ∧ Aside (Below w3.heap.size w3 wr) ∧ Aside (i = 0 → vw = .slice none 0 0))
      case atStart => exact ⟨0, _, [], rfl, rfl, by omega, by omega, Own.nil _ _ _, WantAt.start q, Below.refl _ _, (fun _ => rfl : (0 : Nat) = 0 → _)⟩
      case round =>
        obtain ⟨i, vw, W, rfl, rfl, hik, hky, OW, WA, BW, NW⟩ := hrel
        by_cases hlt : i < k
        · have hltz : (i : Int) < (k : Int) := by omega
          obtain ⟨x, hx⟩ : ∃ x, x = q[i]'(by rw [HQ.out]; exact hlt) := ⟨_, rfl⟩
          have HX := Lib.hid hx
          clear hx
          have CIN : Aside (CellsIn wr b off q) := ((HC.out.keep BS.out hbl hsw).keep BW.out (by omega) BW.out.size)
          obtain ⟨cw, pw, hvw⟩ : ∃ cw pw, vw = .slice pw i cw := by
            rcases Nat.eq_zero_or_pos i with h | h
            · exact ⟨0, none, by rw [NW.out h, h]⟩
            · obtain ⟨g, c, o⟩ := OW.out.at (by rw [List.length_map, WA.out.len]; exact h)
              refine ⟨c, some ⟨g, 0, none⟩, ?_⟩
              have := o.v
              rwa [List.length_map, WA.out.len] at this
          subst hvw
          go_upto_block 4 with fail
          go_cut [8] (fun s8 wx => AtRel x W i wr s8 wx)
          case first =>
            as_aux_lemma =>
              go_wp2_with fail
              go_loopg [8] i (fun kz s8 wz => ∃ j : Nat, s8 = .int .i64 j ∧ j ≤ i ∧ j ≤ kz ∧ Aside (Gr wr wz) ∧ Aside (∀ t (h : t < W.length), j ≤ t → lessB x W[t].1 = true))
              case atStart => exact ⟨i, rfl, Nat.le_refl _, Nat.le_refl _, Gr.refl _, (fun t h h2 => by have := WA.out.len; omega : ∀ t (h : t < W.length), i ≤ t → lessB x W[t].1 = true)⟩
              case round =>
                obtain ⟨j, rfl, hji, hkz, GZ, HI⟩ := hrel
                by_cases hj0 : 0 < j
                · obtain ⟨jp, rfl⟩ : ∃ jp, j = jp + 1 := ⟨j - 1, by omega⟩
                  obtain ⟨gw, cw', ow⟩ := OW.out.at (by rw [List.length_map, WA.out.len]; omega)
                  have hv := ow.v
                  simp only [Value.slice.injEq] at hv
                  obtain ⟨rfl, hlen0, rfl⟩ := hv
                  clear hlen0
                  have hjl : jp < (W.map (·.1)).length := by rw [List.length_map, WA.out.len]; omega
                  have hjw : jp < W.length := by rw [WA.out.len]; omega
                  obtain ⟨y, hy⟩ : ∃ y, y = W[jp].1 := ⟨_, rfl⟩
                  have ey : (W.map (·.1))[jp] = y := by rw [hy]; simp
                  have k0 := ow.c0 jp hjl; have k1 := ow.c1 jp hjl; have k2 := ow.c2 jp hjl; have k3 := ow.c3 jp hjl
                  rw [ey] at k0 k1 k2 k3
                  have hil : i < q.length := by rw [HQ.out]; exact hlt
                  have l0 := CIN.out.c0 i hil; have l1 := CIN.out.c1 i hil; have l2 := CIN.out.c2 i hil; have l3 := CIN.out.c3 i hil
                  rw [← HX.out] at l0 l1 l2 l3
                  replace k0 := grc (gcell4 GZ.out k0); replace k1 := grc (gcell4 GZ.out k1); replace k2 := grc (gcell4 GZ.out k2); replace k3 := grc (gcell4 GZ.out k3)
                  replace l0 := grc (gcell4 GZ.out l0); replace l1 := grc (gcell4 GZ.out l1); replace l2 := grc (gcell4 GZ.out l2); replace l3 := grc (gcell4 GZ.out l3)
                  have HY := Lib.hid hy
                  clear hy ey ow
                  have LX : Hid (∀ W', Calls Try.prog 12 #[.agg #[.int .i64 x.d, .int .i64 x.b, .int .i64 x.g, .int .i64 x.i], .agg #[.int .i64 y.d, .int .i64 y.b, .int .i64 y.g, .int .i64 y.i]] W' fun e w' => e = .returned (.bool (lessB x y)) ∧ ∃ q os', w' = grow (W'.drewN q) os') := fun W' => rless_any x y W'
                  obtain ⟨p, hp⟩ : ∃ p, lessB x y = p := ⟨_, rfl⟩
                  rw [hp] at LX
                  have HP := Lib.hid hp
                  clear hp
                  have hz3 : ((jp + 1 : Nat) : Int) = (jp : Int) + 1 := by omega
                  have hpos : (0 : Int) < (jp : Int) + 1 := by omega
                  have hgt : decide ((jp : Int) + 1 > 0) = true := decide_eq_true (by omega)
                  have hwp : IntKind.i64.wrap (jp : Int) = (jp : Int) := by rw [IntKind.wrap_i64]; omega
                  have jz : (jp : Int) < (i : Int) := by omega
                  cases p
                  · go_wp2_with fail
                    go_quiet_grown (first | (go_at_call 12; refine Calls.grown_of (LX.out _)))
                    go_wp2
                    go_meet
                    have LO : ∀ t, t + 1 = jp + 1 → ∀ h : t < W.length, lessB x W[t].1 = false := by
                      intro t ht h
                      have e : t = jp := by omega
                      subst e
                      rw [← HY.out]
                      exact HP.out
                    exact ⟨jp + 1, by first | rfl | go_num, hji, LO, HI.out, GZ.out.trans ⟨_, _, rfl⟩⟩
                  · go_wp2_with fail
                    go_quiet_grown (first | (go_at_call 12; refine Calls.grown_of (LX.out _)))
                    go_wp2
                    go_roundg jp
                    case measure => omega
                    case rel => exact ⟨jp, by first | rfl | go_num, by omega, Nat.le_refl _, GZ.out.trans ⟨_, _, rfl⟩, (fun t h h2 => by
                      by_cases e : t = jp
                      · subst e; rw [← HY.out]; exact HP.out
                      · exact HI.out t h (by omega) : ∀ t (h : t < W.length), jp ≤ t → lessB x W[t].1 = true)⟩
                · obtain rfl : j = 0 := by omega
                  have hgt : decide (((0 : Nat) : Int) > 0) = false := by simp
                  go_wp2_with fail
                  refine wp_region_quiet_grown (by assumption) (by kernel_rfl) ?_
                  repeat (go_big_quiet_step (fail))
                  refine wpQuiet_nil ?_
                  intro _ hw'
                  obtain ⟨⟨nq, osq⟩, hw''⟩ := hw'
                  subst hw''
                  go_wp2
                  go_meet
                  exact ⟨0, by first | rfl | go_num, by omega, fun t ht => by omega, HI.out, GZ.out.trans ⟨_, _, rfl⟩⟩
          case rest =>
            obtain ⟨j, rfl, hji, lo, hi, gz⟩ := hcut
            have BWC : Aside (Below w3.heap.size w3 wc) := below_of_gr BW.out gz BW.out.size
            have hw3c : w3.heap.size ≤ wc.heap.size := BWC.out.size
            have WA2 : Aside (WantAt q (i + 1) (insAt W j (x, i))) := by
              have hil : i < q.length := by rw [HQ.out]; exact hlt
              have := WA.out.step hil hji (fun t ht h => by rw [← HX.out]; exact lo t ht h) (fun t h h2 => by rw [← HX.out]; exact hi t h h2)
              rw [← HX.out] at this
              exact this
            have LW : Hid (W.length = i) := WA.out.len
            have LJ : Hid (j ≤ (W.map (·.1)).length) := by show _ ≤ _; rw [List.length_map, LW.out]; exact hji
            have CIN2 := CIN.out.keep gz.below CIN.out.lt gz.size
            have hil : i < q.length := by rw [HQ.out]; exact hlt
            have hbc : b < wc.heap.size := CIN2.lt
            have l0 := CIN2.c0 i hil; have l1 := CIN2.c1 i hil; have l2 := CIN2.c2 i hil; have l3 := CIN2.c3 i hil
            rw [← HX.out] at l0 l1 l2 l3
            have L0 := Lib.hid l0
            have L1 := Lib.hid l1
            have L2 := Lib.hid l2
            have L3 := Lib.hid l3
            have OWC : Aside (Own w3.heap.size 23 wc (.slice pw i cw) (W.map (·.1))) := OW.out.gr gz
            clear l0 l1 l2 l3 CIN2 hil CIN lo hi gz OW BW HC
            go_upto_region 20 with fail
            as_aux_lemma =>
                have hjz : (j : Int) ≤ (i : Int) := by omega
                rcases Nat.eq_zero_or_pos i with h0' | h0'
                · subst h0'
                  obtain rfl : j = 0 := by omega
                  obtain rfl : W = [] := List.eq_nil_of_length_eq_zero LW.out
                  have hvn := NW.out rfl
                  simp only [Value.slice.injEq] at hvn
                  obtain ⟨rfl, _, rfl⟩ := hvn
                  have FIN : Hid (∀ {v' w'}, Own wc.heap.size 23 w' v' ([x]) → Own wc.heap.size 23 w' v' ((insAt [] 0 (x, 0)).map (·.1))) := fun {v' w'} h => h
                  refine wp_region_inv' 14 (by assumption) (by kernel_rfl) (I20 wc.heap.size wc (.slice none 0 0) (.slice (some ⟨b, off, none⟩) k cap) (.slice none 0 0) (.slice none 0 0) 0 0 ⟨b, off + 0 * 4, none⟩ x ((List.map (·.1) ([] : List (Rk × Nat))).take 0)) ?_ ?_ ?_
                  · exact ⟨_, _, _, _, _, _, _, _, _, _, _, _, _, _, pt_self _, (Below.refl _ _).drew, Nat.le_refl _, nofun, nofun, nofun, nofun, nofun, nofun, nofun, nofun, nofun, nofun, nofun, nofun, nofun, nofun, nofun, nofun⟩
                  · intro L a w i0 o hI hi ho hu hd
                    obtain ⟨s60, s61, s62, s63, s64, s65, s66, s67, s68, s69, s70, s71, s72, s73, rfl, J⟩ := hI
                    have hcase : i0 = 0 ∨ i0 = 1 ∨ i0 = 2 ∨ i0 = 3 ∨ i0 = 4 ∨ i0 = 5 ∨ i0 = 6 ∨ i0 = 7 ∨ i0 = 8 ∨ i0 = 9 ∨ i0 = 10 ∨ i0 = 11 ∨ i0 = 12 ∨ i0 = 13 := by omega
                    rcases hcase with rfl | rfl | rfl | rfl | rfl | rfl | rfl | rfl | rfl | rfl | rfl | rfl | rfl | rfl
                    all_goals (obtain rfl := Option.some.inj ho; clear ho hi)
                    all_goals simp only [pt, Act.put, List.setIfInBounds_toArray, List.set_cons_zero, List.set_cons_succ, Int.cast_ofNat_Int, Nat.zero_mul, Nat.add_zero]
                    · refine wpOp_step rfl (fun K hK => ?_)
                      go_simp
                      refine hK _ _ ⟨(.slice (some ⟨w.heap.size, 0, none⟩) 0 0), s61, s62, s63, s64, s65, s66, s67, s68, s69, s70, s71, s72, s73, ?_, J.mark0⟩
                      simp only [pt, Act.put, List.setIfInBounds_toArray, List.set_cons_zero, List.set_cons_succ]
                    · refine wpOp_step rfl (fun K hK => ?_)
                      go_simp
                      refine hK _ _ ⟨s60, (.slice none 0 0), s62, s63, s64, s65, s66, s67, s68, s69, s70, s71, s72, s73, ?_, J.mark1⟩
                      simp only [pt, Act.put, List.setIfInBounds_toArray, List.set_cons_zero, List.set_cons_succ]
                    · refine wpOp_step rfl (fun K hK => ?_)
                      go_simp
                      refine hK _ _ ⟨s60, s61, (.int .i64 (0 : Nat)), s63, s64, s65, s66, s67, s68, s69, s70, s71, s72, s73, ?_, J.mark2⟩
                      simp only [pt, Act.put, List.setIfInBounds_toArray, List.set_cons_zero, List.set_cons_succ, Int.cast_ofNat_Int]
                    · have d1 := hd ⟨1, .data⟩ (by simp) (by rfl)
                      obtain rfl := J.m1 d1
                      have d2 := hd ⟨2, .data⟩ (by simp) (by rfl)
                      obtain rfl := J.m2 d2
                      refine wpOp_step rfl (fun K hK => ?_)
                      go_simp
                      refine hK _ _ ⟨s60, (.slice none 0 0), (.int .i64 (0 : Nat)), (.slice none 0 0), s64, s65, s66, s67, s68, s69, s70, s71, s72, s73, ?_, J.mark3⟩
                      simp only [pt, Act.put, List.setIfInBounds_toArray, List.set_cons_zero, List.set_cons_succ, Int.cast_ofNat_Int]
                    · have d0 := hd ⟨0, .data⟩ (by simp) (by rfl)
                      have d3 := hd ⟨3, .data⟩ (by simp) (by rfl)
                      obtain rfl := J.m3 d3
                      refine wpOp_append (o := ⟨some 64, _, _, _, _, _⟩) rfl rfl (.tmp 60) (.tmp 63) rfl _ _ rfl rfl s60 w (append23_nil (J.o0 d0 hu) 0) ?_
                      refine ⟨s60, s61, s62, (.slice none 0 0), s60, s65, s66, s67, s68, s69, s70, s71, s72, s73, ?_, J.mark4 d0 hu (by simpa using J.o0 d0 hu) (World.grownBy.refl w _) (.inl rfl)⟩
                      simp only [pt, Act.put, List.setIfInBounds_toArray, List.set_cons_zero, List.set_cons_succ]
                    · refine wpOp_step rfl (fun K hK => ?_)
                      go_simp
                      refine hK _ _ ⟨s60, s61, s62, s63, s64, (.slice (some ⟨b, off, none⟩) k cap), s66, s67, s68, s69, s70, s71, s72, s73, ?_, J.mark5⟩
                      simp only [pt, Act.put, List.setIfInBounds_toArray, List.set_cons_zero, List.set_cons_succ]
                    · refine wpOp_step rfl (fun K hK => ?_)
                      go_simp
                      refine hK _ _ ⟨s60, s61, s62, s63, s64, s65, (.int .i64 (0 : Nat)), s67, s68, s69, s70, s71, s72, s73, ?_, J.mark6⟩
                      simp only [pt, Act.put, List.setIfInBounds_toArray, List.set_cons_zero, List.set_cons_succ, Int.cast_ofNat_Int]
                    · have d5 := hd ⟨5, .data⟩ (by simp) (by rfl)
                      obtain rfl := J.m5 d5
                      have d6 := hd ⟨6, .data⟩ (by simp) (by rfl)
                      obtain rfl := J.m6 d6
                      refine wpOp_step rfl (fun K hK => ?_)
                      go_simp
                      refine hK _ _ ⟨s60, s61, s62, s63, s64, (.slice (some ⟨b, off, none⟩) k cap), (.int .i64 (0 : Nat)), (.pointer (some ⟨b, off + 0 * 4, none⟩)), s68, s69, s70, s71, s72, s73, ?_, J.mark7⟩
                      simp only [pt, Act.put, List.setIfInBounds_toArray, List.set_cons_zero, List.set_cons_succ, Int.cast_ofNat_Int, Nat.zero_mul, Nat.add_zero]
                    · have d7 := hd ⟨7, .data⟩ (by simp) (by rfl)
                      obtain rfl := J.m7 d7
                      have l0 := (J.bl.cell (p := ⟨b, _, none⟩) hbc).trans L0.out; have l1 := (J.bl.cell (p := ⟨b, _, none⟩) hbc).trans L1.out; have l2 := (J.bl.cell (p := ⟨b, _, none⟩) hbc).trans L2.out; have l3 := (J.bl.cell (p := ⟨b, _, none⟩) hbc).trans L3.out; simp only [Nat.zero_mul, Nat.add_zero] at l0 l1 l2 l3
                      refine wpOp_step rfl (fun K hK => ?_)
                      go_simp
                      refine hK _ _ ⟨s60, s61, s62, s63, s64, s65, s66, (.pointer (some ⟨b, off + 0 * 4, none⟩)), (V x), s69, s70, s71, s72, s73, ?_, J.mark8⟩
                      simp only [pt, Act.put, List.setIfInBounds_toArray, List.set_cons_zero, List.set_cons_succ, Nat.zero_mul, Nat.add_zero]
                    · have d8 := hd ⟨8, .data⟩ (by simp) (by rfl)
                      obtain rfl := J.m8 d8
                      refine wpOp_step rfl (fun K hK => ?_)
                      go_simp
                      refine hK _ _ ⟨s60, s61, s62, s63, s64, s65, s66, s67, (V x), (.slice (some ⟨w.heap.size, 0, none⟩) 1 1), s70, s71, s72, s73, ?_, J.mark9 hu⟩
                      simp only [pt, Act.put, List.setIfInBounds_toArray, List.set_cons_zero, List.set_cons_succ]
                    · have d4 := hd ⟨4, .data⟩ (by simp) (by rfl)
                      have d9 := hd ⟨9, .data⟩ (by simp) (by rfl)
                      obtain ⟨g9, rfl, q2, q3, _, _⟩ := J.o9 d9 hu
                      obtain ⟨v', w', hr, ho, gb, hat⟩ := append23 (J.o4 d4 hu) ⟨g9, 0, none⟩ 1 [x] q3 J.le (by simp <;> omega)
                      rw [show [x].length = 1 from rfl] at hr
                      refine wpOp_append (o := ⟨some 70, _, _, _, _, _⟩) rfl rfl (.tmp 64) (.tmp 69) rfl s64 (.slice (some ⟨g9, 0, none⟩) 1 1) rfl rfl v' w' hr ?_
                      refine ⟨s60, s61, s62, s63, s64, s65, s66, s67, s68, (.slice (some ⟨g9, 0, none⟩) 1 1), v', s71, s72, s73, ?_, J.mark10 d4 d9 hu ho gb⟩
                      simp only [pt, Act.put, List.setIfInBounds_toArray, List.set_cons_zero, List.set_cons_succ]
                    · refine wpOp_step rfl (fun K hK => ?_)
                      go_simp
                      refine hK _ _ ⟨s60, s61, s62, s63, s64, s65, s66, s67, s68, s69, s70, (.slice none 0 0), s72, s73, ?_, J.mark11⟩
                      simp only [pt, Act.put, List.setIfInBounds_toArray, List.set_cons_zero, List.set_cons_succ]
                    · refine wpOp_step rfl (fun K hK => ?_)
                      go_simp
                      refine hK _ _ ⟨s60, s61, s62, s63, s64, s65, s66, s67, s68, s69, s70, s71, (.int .i64 (0 : Nat)), s73, ?_, J.mark12⟩
                      simp only [pt, Act.put, List.setIfInBounds_toArray, List.set_cons_zero, List.set_cons_succ, Int.cast_ofNat_Int]
                    · have d11 := hd ⟨11, .data⟩ (by simp) (by rfl)
                      obtain rfl := J.m11 d11
                      have d12 := hd ⟨12, .data⟩ (by simp) (by rfl)
                      obtain rfl := J.m12 d12
                      refine wpOp_step rfl (fun K hK => ?_)
                      go_simp
                      refine hK _ _ ⟨s60, s61, s62, s63, s64, s65, s66, s67, s68, s69, s70, (.slice none 0 0), (.int .i64 (0 : Nat)), (.slice none 0 0), ?_, J.mark13⟩
                      simp only [pt, Act.put, List.setIfInBounds_toArray, List.set_cons_zero, List.set_cons_succ, Int.cast_ofNat_Int]
                  · intro a w hI
                    obtain ⟨s60, s61, s62, s63, s64, s65, s66, s67, s68, s69, s70, s71, s72, s73, rfl, J⟩ := hI
                    obtain rfl := J.m13 (by simp)
                    have o10 := J.o10 (by simp)
                    have bl := J.bl
                    have le := J.le
                    simp only [List.drop_succ_cons, List.drop_zero]
                    simp only [pt, Act.put, List.setIfInBounds_toArray, List.set_cons_zero, List.set_cons_succ, Int.cast_ofNat_Int]
                    refine wpList_app rfl (.tmp 70) (.tmp 73) rfl _ _ rfl rfl s70 w (append23_nil o10 0) ?_
                    have OO : Aside (Own w3.heap.size 23 w s70 ((insAt [] 0 (x, 0)).map (·.1))) := (FIN.out (by simpa using o10)).mono (by omega)
                    have BB : Aside (Below w3.heap.size w3 w) := BWC.out.trans (bl.mono (by omega))
                    clear J o10 bl
                    go_wp2
                    go_roundg (k - (0 + 1))
                    case measure => omega
                    case rel => exact ⟨0 + 1, _, insAt [] 0 (x, 0), rfl, by go_num, by omega, Nat.le_refl _, OO, WA2, BB, (fun e => by omega : 0 + 1 = 0 → _)⟩
                · obtain ⟨gw, cw', ow⟩ := OWC.out.at (by rw [List.length_map, LW.out]; exact h0')
                  have hv := ow.v
                  simp only [Value.slice.injEq] at hv
                  obtain ⟨rfl, hlen0, rfl⟩ := hv
                  have hic : i ≤ cw := by have := ow.room; rw [List.length_map, LW.out] at this; exact this
                  have hgl := ow.lt
                  have SRC : Hid (∀ w', Below wc.heap.size wc w' → ∀ t u, (flatL (W.map (·.1)))[t]? = some u → w'.cell? ((⟨gw, 0, none⟩ : Addr).add t) = some u) := fun w' hb t u hu => by
                    have := World.ownsRow.cells OWC.out (g := gw) rfl t u hu
                    rw [hb.cell (by rw [add_block]; exact hgl)]
                    exact this
                  have FIN : Hid (∀ {v' w'}, Own wc.heap.size 23 w' v' ((W.map (·.1)).take j ++ [x] ++ (W.map (·.1)).drop j) → Own wc.heap.size 23 w' v' ((insAt W j (x, i)).map (·.1))) := fun {v' w'} h => by
                    unfold insAt
                    simpa [List.map_take, List.map_drop] using h
                  clear hlen0 ow OWC
                  have hjc : (j : Int) ≤ (cw : Int) := by omega
                  by_cases hc : j = cw
                  · obtain rfl : i = cw := by omega
                    subst hc
                    refine wp_region_inv' 14 (by assumption) (by kernel_rfl) (I20 wc.heap.size wc (.slice (some ⟨gw, 0, none⟩) j j) (.slice (some ⟨b, off, none⟩) k cap) (.slice (some ⟨gw, 0, none⟩) j j) (.slice (some ⟨gw, 0, none⟩) 0 0) j j ⟨b, off + j * 4, none⟩ x ((W.map (·.1)).take j)) ?_ ?_ ?_
                    · exact ⟨_, _, _, _, _, _, _, _, _, _, _, _, _, _, pt_self _, (Below.refl _ _).drew, Nat.le_refl _, nofun, nofun, nofun, nofun, nofun, nofun, nofun, nofun, nofun, nofun, nofun, nofun, nofun, nofun, nofun, nofun⟩
                    · intro L a w i0 o hI hi ho hu hd
                      obtain ⟨s60, s61, s62, s63, s64, s65, s66, s67, s68, s69, s70, s71, s72, s73, rfl, J⟩ := hI
                      have hcase : i0 = 0 ∨ i0 = 1 ∨ i0 = 2 ∨ i0 = 3 ∨ i0 = 4 ∨ i0 = 5 ∨ i0 = 6 ∨ i0 = 7 ∨ i0 = 8 ∨ i0 = 9 ∨ i0 = 10 ∨ i0 = 11 ∨ i0 = 12 ∨ i0 = 13 := by omega
                      rcases hcase with rfl | rfl | rfl | rfl | rfl | rfl | rfl | rfl | rfl | rfl | rfl | rfl | rfl | rfl
                      all_goals (obtain rfl := Option.some.inj ho; clear ho hi)
                      all_goals simp only [pt, Act.put, List.setIfInBounds_toArray, List.set_cons_zero, List.set_cons_succ]
                      · refine wpOp_step rfl (fun K hK => ?_)
                        go_simp
                        refine hK _ _ ⟨(.slice (some ⟨w.heap.size, 0, none⟩) 0 0), s61, s62, s63, s64, s65, s66, s67, s68, s69, s70, s71, s72, s73, ?_, J.mark0⟩
                        simp only [pt, Act.put, List.setIfInBounds_toArray, List.set_cons_zero, List.set_cons_succ]
                      · refine wpOp_step rfl (fun K hK => ?_)
                        go_simp
                        refine hK _ _ ⟨s60, (.slice (some ⟨gw, 0, none⟩) j j), s62, s63, s64, s65, s66, s67, s68, s69, s70, s71, s72, s73, ?_, J.mark1⟩
                        simp only [pt, Act.put, List.setIfInBounds_toArray, List.set_cons_zero, List.set_cons_succ]
                      · refine wpOp_step rfl (fun K hK => ?_)
                        go_simp
                        refine hK _ _ ⟨s60, s61, (.int .i64 j), s63, s64, s65, s66, s67, s68, s69, s70, s71, s72, s73, ?_, J.mark2⟩
                        simp only [pt, Act.put, List.setIfInBounds_toArray, List.set_cons_zero, List.set_cons_succ]
                      · have d1 := hd ⟨1, .data⟩ (by simp) (by rfl)
                        obtain rfl := J.m1 d1
                        have d2 := hd ⟨2, .data⟩ (by simp) (by rfl)
                        obtain rfl := J.m2 d2
                        refine wpOp_step rfl (fun K hK => ?_)
                        go_simp
                        refine hK _ _ ⟨s60, (.slice (some ⟨gw, 0, none⟩) j j), (.int .i64 j), (.slice (some ⟨gw, 0, none⟩) j j), s64, s65, s66, s67, s68, s69, s70, s71, s72, s73, ?_, J.mark3⟩
                        simp only [pt, Act.put, List.setIfInBounds_toArray, List.set_cons_zero, List.set_cons_succ]
                      · have d0 := hd ⟨0, .data⟩ (by simp) (by rfl)
                        have d3 := hd ⟨3, .data⟩ (by simp) (by rfl)
                        obtain rfl := J.m3 d3
                        obtain ⟨v', w', hr, ho, gb, hat⟩ := append23 (J.o0 d0 hu) ⟨gw, 0, none⟩ j ((W.map (·.1)).take j) (src_take (SRC.out w J.bl) j LJ.out) J.le (by simp; omega)
                        rw [show ((W.map (·.1)).take j).length = j by rw [List.length_take]; have := LJ.out; omega] at hr
                        refine wpOp_append (o := ⟨some 64, _, _, _, _, _⟩) rfl rfl (.tmp 60) (.tmp 63) rfl _ _ rfl rfl v' w' hr ?_
                        refine ⟨s60, s61, s62, (.slice (some ⟨gw, 0, none⟩) j j), v', s65, s66, s67, s68, s69, s70, s71, s72, s73, ?_, J.mark4 d0 hu (by simpa using ho) gb hat⟩
                        simp only [pt, Act.put, List.setIfInBounds_toArray, List.set_cons_zero, List.set_cons_succ]
                      · refine wpOp_step rfl (fun K hK => ?_)
                        go_simp
                        refine hK _ _ ⟨s60, s61, s62, s63, s64, (.slice (some ⟨b, off, none⟩) k cap), s66, s67, s68, s69, s70, s71, s72, s73, ?_, J.mark5⟩
                        simp only [pt, Act.put, List.setIfInBounds_toArray, List.set_cons_zero, List.set_cons_succ]
                      · refine wpOp_step rfl (fun K hK => ?_)
                        go_simp
                        refine hK _ _ ⟨s60, s61, s62, s63, s64, s65, (.int .i64 j), s67, s68, s69, s70, s71, s72, s73, ?_, J.mark6⟩
                        simp only [pt, Act.put, List.setIfInBounds_toArray, List.set_cons_zero, List.set_cons_succ]
                      · have d5 := hd ⟨5, .data⟩ (by simp) (by rfl)
                        obtain rfl := J.m5 d5
                        have d6 := hd ⟨6, .data⟩ (by simp) (by rfl)
                        obtain rfl := J.m6 d6
                        refine wpOp_step rfl (fun K hK => ?_)
                        go_simp
                        refine hK _ _ ⟨s60, s61, s62, s63, s64, (.slice (some ⟨b, off, none⟩) k cap), (.int .i64 j), (.pointer (some ⟨b, off + j * 4, none⟩)), s68, s69, s70, s71, s72, s73, ?_, J.mark7⟩
                        simp only [pt, Act.put, List.setIfInBounds_toArray, List.set_cons_zero, List.set_cons_succ]
                      · have d7 := hd ⟨7, .data⟩ (by simp) (by rfl)
                        obtain rfl := J.m7 d7
                        have l0 := (J.bl.cell (p := ⟨b, _, none⟩) hbc).trans L0.out; have l1 := (J.bl.cell (p := ⟨b, _, none⟩) hbc).trans L1.out; have l2 := (J.bl.cell (p := ⟨b, _, none⟩) hbc).trans L2.out; have l3 := (J.bl.cell (p := ⟨b, _, none⟩) hbc).trans L3.out
                        refine wpOp_step rfl (fun K hK => ?_)
                        go_simp
                        refine hK _ _ ⟨s60, s61, s62, s63, s64, s65, s66, (.pointer (some ⟨b, off + j * 4, none⟩)), (V x), s69, s70, s71, s72, s73, ?_, J.mark8⟩
                        simp only [pt, Act.put, List.setIfInBounds_toArray, List.set_cons_zero, List.set_cons_succ]
                      · have d8 := hd ⟨8, .data⟩ (by simp) (by rfl)
                        obtain rfl := J.m8 d8
                        refine wpOp_step rfl (fun K hK => ?_)
                        go_simp
                        refine hK _ _ ⟨s60, s61, s62, s63, s64, s65, s66, s67, (V x), (.slice (some ⟨w.heap.size, 0, none⟩) 1 1), s70, s71, s72, s73, ?_, J.mark9 hu⟩
                        simp only [pt, Act.put, List.setIfInBounds_toArray, List.set_cons_zero, List.set_cons_succ]
                      · have d4 := hd ⟨4, .data⟩ (by simp) (by rfl)
                        have d9 := hd ⟨9, .data⟩ (by simp) (by rfl)
                        obtain ⟨g9, rfl, q2, q3, _, _⟩ := J.o9 d9 hu
                        obtain ⟨v', w', hr, ho, gb, hat⟩ := append23 (J.o4 d4 hu) ⟨g9, 0, none⟩ 1 [x] q3 J.le (by simp <;> omega)
                        rw [show [x].length = 1 from rfl] at hr
                        refine wpOp_append (o := ⟨some 70, _, _, _, _, _⟩) rfl rfl (.tmp 64) (.tmp 69) rfl s64 (.slice (some ⟨g9, 0, none⟩) 1 1) rfl rfl v' w' hr ?_
                        refine ⟨s60, s61, s62, s63, s64, s65, s66, s67, s68, (.slice (some ⟨g9, 0, none⟩) 1 1), v', s71, s72, s73, ?_, J.mark10 d4 d9 hu ho gb⟩
                        simp only [pt, Act.put, List.setIfInBounds_toArray, List.set_cons_zero, List.set_cons_succ]
                      · refine wpOp_step rfl (fun K hK => ?_)
                        go_simp
                        refine hK _ _ ⟨s60, s61, s62, s63, s64, s65, s66, s67, s68, s69, s70, (.slice (some ⟨gw, 0, none⟩) j j), s72, s73, ?_, J.mark11⟩
                        simp only [pt, Act.put, List.setIfInBounds_toArray, List.set_cons_zero, List.set_cons_succ]
                      · refine wpOp_step rfl (fun K hK => ?_)
                        go_simp
                        refine hK _ _ ⟨s60, s61, s62, s63, s64, s65, s66, s67, s68, s69, s70, s71, (.int .i64 j), s73, ?_, J.mark12⟩
                        simp only [pt, Act.put, List.setIfInBounds_toArray, List.set_cons_zero, List.set_cons_succ]
                      · have d11 := hd ⟨11, .data⟩ (by simp) (by rfl)
                        obtain rfl := J.m11 d11
                        have d12 := hd ⟨12, .data⟩ (by simp) (by rfl)
                        obtain rfl := J.m12 d12
                        refine wpOp_step rfl (fun K hK => ?_)
                        go_simp
                        refine hK _ _ ⟨s60, s61, s62, s63, s64, s65, s66, s67, s68, s69, s70, (.slice (some ⟨gw, 0, none⟩) j j), (.int .i64 j), (.slice (some ⟨gw, 0, none⟩) 0 0), ?_, J.mark13⟩
                        simp only [pt, Act.put, List.setIfInBounds_toArray, List.set_cons_zero, List.set_cons_succ]
                    · intro a w hI
                      obtain ⟨s60, s61, s62, s63, s64, s65, s66, s67, s68, s69, s70, s71, s72, s73, rfl, J⟩ := hI
                      obtain rfl := J.m13 (by simp)
                      have o10 := J.o10 (by simp)
                      have bl := J.bl
                      have le := J.le
                      simp only [List.drop_succ_cons, List.drop_zero]
                      simp only [pt, Act.put, List.setIfInBounds_toArray, List.set_cons_zero, List.set_cons_succ]
                      obtain ⟨v', w', hr, ho, gb, hat⟩ := append23 o10 ⟨gw, 0, none⟩ 0 [] (by intro t u hu; simp [flatL] at hu) le (by simp; omega)
                      refine wpList_app rfl (.tmp 70) (.tmp 73) rfl _ _ rfl rfl v' w' hr ?_
                      have bl2 := bl.grown gb le (fun q hq => (World.ownsRow.lt o10 q hq).1)
                      have OO : Aside (Own w3.heap.size 23 w' v' ((insAt W j (x, j)).map (·.1))) := (FIN.out (by rw [show (W.map (·.1)).drop j = [] from List.drop_eq_nil_of_le (by rw [List.length_map, LW.out]; exact Nat.le_refl _)]; exact ho)).mono (by omega)
                      have BB : Aside (Below w3.heap.size w3 w') := BWC.out.trans (bl2.mono (by omega))
                      clear J o10 bl bl2 hr ho gb hat
                      go_wp2
                      go_roundg (k - (j + 1))
                      case measure => omega
                      case rel => exact ⟨j + 1, _, insAt W j (x, j), rfl, by go_num, by omega, Nat.le_refl _, OO, WA2, BB, (fun e => by omega : j + 1 = 0 → _)⟩
                  · have hjc2 : (j : Int) < (cw : Int) := by omega
                    have hcj : ¬ cw = j := by omega
                    refine wp_region_inv' 14 (by assumption) (by kernel_rfl) (I20 wc.heap.size wc (.slice (some ⟨gw, 0, none⟩) i cw) (.slice (some ⟨b, off, none⟩) k cap) (.slice (some ⟨gw, 0, none⟩) j cw) (.slice (some ⟨gw, j * 4, none⟩) (i - j) (cw - j)) j i ⟨b, off + i * 4, none⟩ x ((W.map (·.1)).take j)) ?_ ?_ ?_
                    · exact ⟨_, _, _, _, _, _, _, _, _, _, _, _, _, _, pt_self _, (Below.refl _ _).drew, Nat.le_refl _, nofun, nofun, nofun, nofun, nofun, nofun, nofun, nofun, nofun, nofun, nofun, nofun, nofun, nofun, nofun, nofun⟩
                    · intro L a w i0 o hI hi ho hu hd
                      obtain ⟨s60, s61, s62, s63, s64, s65, s66, s67, s68, s69, s70, s71, s72, s73, rfl, J⟩ := hI
                      have hcase : i0 = 0 ∨ i0 = 1 ∨ i0 = 2 ∨ i0 = 3 ∨ i0 = 4 ∨ i0 = 5 ∨ i0 = 6 ∨ i0 = 7 ∨ i0 = 8 ∨ i0 = 9 ∨ i0 = 10 ∨ i0 = 11 ∨ i0 = 12 ∨ i0 = 13 := by omega
                      rcases hcase with rfl | rfl | rfl | rfl | rfl | rfl | rfl | rfl | rfl | rfl | rfl | rfl | rfl | rfl
                      all_goals (obtain rfl := Option.some.inj ho; clear ho hi)
                      all_goals simp only [pt, Act.put, List.setIfInBounds_toArray, List.set_cons_zero, List.set_cons_succ]
                      · refine wpOp_step rfl (fun K hK => ?_)
                        go_simp
                        refine hK _ _ ⟨(.slice (some ⟨w.heap.size, 0, none⟩) 0 0), s61, s62, s63, s64, s65, s66, s67, s68, s69, s70, s71, s72, s73, ?_, J.mark0⟩
                        simp only [pt, Act.put, List.setIfInBounds_toArray, List.set_cons_zero, List.set_cons_succ]
                      · refine wpOp_step rfl (fun K hK => ?_)
                        go_simp
                        refine hK _ _ ⟨s60, (.slice (some ⟨gw, 0, none⟩) i cw), s62, s63, s64, s65, s66, s67, s68, s69, s70, s71, s72, s73, ?_, J.mark1⟩
                        simp only [pt, Act.put, List.setIfInBounds_toArray, List.set_cons_zero, List.set_cons_succ]
                      · refine wpOp_step rfl (fun K hK => ?_)
                        go_simp
                        refine hK _ _ ⟨s60, s61, (.int .i64 j), s63, s64, s65, s66, s67, s68, s69, s70, s71, s72, s73, ?_, J.mark2⟩
                        simp only [pt, Act.put, List.setIfInBounds_toArray, List.set_cons_zero, List.set_cons_succ]
                      · have d1 := hd ⟨1, .data⟩ (by simp) (by rfl)
                        obtain rfl := J.m1 d1
                        have d2 := hd ⟨2, .data⟩ (by simp) (by rfl)
                        obtain rfl := J.m2 d2
                        refine wpOp_step rfl (fun K hK => ?_)
                        go_simp
                        refine hK _ _ ⟨s60, (.slice (some ⟨gw, 0, none⟩) i cw), (.int .i64 j), (.slice (some ⟨gw, 0, none⟩) j cw), s64, s65, s66, s67, s68, s69, s70, s71, s72, s73, ?_, J.mark3⟩
                        simp only [pt, Act.put, List.setIfInBounds_toArray, List.set_cons_zero, List.set_cons_succ]
                      · have d0 := hd ⟨0, .data⟩ (by simp) (by rfl)
                        have d3 := hd ⟨3, .data⟩ (by simp) (by rfl)
                        obtain rfl := J.m3 d3
                        obtain ⟨v', w', hr, ho, gb, hat⟩ := append23 (J.o0 d0 hu) ⟨gw, 0, none⟩ cw ((W.map (·.1)).take j) (src_take (SRC.out w J.bl) j LJ.out) J.le (by simp; omega)
                        rw [show ((W.map (·.1)).take j).length = j by rw [List.length_take]; have := LJ.out; omega] at hr
                        refine wpOp_append (o := ⟨some 64, _, _, _, _, _⟩) rfl rfl (.tmp 60) (.tmp 63) rfl _ _ rfl rfl v' w' hr ?_
                        refine ⟨s60, s61, s62, (.slice (some ⟨gw, 0, none⟩) j cw), v', s65, s66, s67, s68, s69, s70, s71, s72, s73, ?_, J.mark4 d0 hu (by simpa using ho) gb hat⟩
                        simp only [pt, Act.put, List.setIfInBounds_toArray, List.set_cons_zero, List.set_cons_succ]
                      · refine wpOp_step rfl (fun K hK => ?_)
                        go_simp
                        refine hK _ _ ⟨s60, s61, s62, s63, s64, (.slice (some ⟨b, off, none⟩) k cap), s66, s67, s68, s69, s70, s71, s72, s73, ?_, J.mark5⟩
                        simp only [pt, Act.put, List.setIfInBounds_toArray, List.set_cons_zero, List.set_cons_succ]
                      · refine wpOp_step rfl (fun K hK => ?_)
                        go_simp
                        refine hK _ _ ⟨s60, s61, s62, s63, s64, s65, (.int .i64 i), s67, s68, s69, s70, s71, s72, s73, ?_, J.mark6⟩
                        simp only [pt, Act.put, List.setIfInBounds_toArray, List.set_cons_zero, List.set_cons_succ]
                      · have d5 := hd ⟨5, .data⟩ (by simp) (by rfl)
                        obtain rfl := J.m5 d5
                        have d6 := hd ⟨6, .data⟩ (by simp) (by rfl)
                        obtain rfl := J.m6 d6
                        refine wpOp_step rfl (fun K hK => ?_)
                        go_simp
                        refine hK _ _ ⟨s60, s61, s62, s63, s64, (.slice (some ⟨b, off, none⟩) k cap), (.int .i64 i), (.pointer (some ⟨b, off + i * 4, none⟩)), s68, s69, s70, s71, s72, s73, ?_, J.mark7⟩
                        simp only [pt, Act.put, List.setIfInBounds_toArray, List.set_cons_zero, List.set_cons_succ]
                      · have d7 := hd ⟨7, .data⟩ (by simp) (by rfl)
                        obtain rfl := J.m7 d7
                        have l0 := (J.bl.cell (p := ⟨b, _, none⟩) hbc).trans L0.out; have l1 := (J.bl.cell (p := ⟨b, _, none⟩) hbc).trans L1.out; have l2 := (J.bl.cell (p := ⟨b, _, none⟩) hbc).trans L2.out; have l3 := (J.bl.cell (p := ⟨b, _, none⟩) hbc).trans L3.out
                        refine wpOp_step rfl (fun K hK => ?_)
                        go_simp
                        refine hK _ _ ⟨s60, s61, s62, s63, s64, s65, s66, (.pointer (some ⟨b, off + i * 4, none⟩)), (V x), s69, s70, s71, s72, s73, ?_, J.mark8⟩
                        simp only [pt, Act.put, List.setIfInBounds_toArray, List.set_cons_zero, List.set_cons_succ]
                      · have d8 := hd ⟨8, .data⟩ (by simp) (by rfl)
                        obtain rfl := J.m8 d8
                        refine wpOp_step rfl (fun K hK => ?_)
                        go_simp
                        refine hK _ _ ⟨s60, s61, s62, s63, s64, s65, s66, s67, (V x), (.slice (some ⟨w.heap.size, 0, none⟩) 1 1), s70, s71, s72, s73, ?_, J.mark9 hu⟩
                        simp only [pt, Act.put, List.setIfInBounds_toArray, List.set_cons_zero, List.set_cons_succ]
                      · have d4 := hd ⟨4, .data⟩ (by simp) (by rfl)
                        have d9 := hd ⟨9, .data⟩ (by simp) (by rfl)
                        obtain ⟨g9, rfl, q2, q3, _, _⟩ := J.o9 d9 hu
                        obtain ⟨v', w', hr, ho, gb, hat⟩ := append23 (J.o4 d4 hu) ⟨g9, 0, none⟩ 1 [x] q3 J.le (by simp <;> omega)
                        rw [show [x].length = 1 from rfl] at hr
                        refine wpOp_append (o := ⟨some 70, _, _, _, _, _⟩) rfl rfl (.tmp 64) (.tmp 69) rfl s64 (.slice (some ⟨g9, 0, none⟩) 1 1) rfl rfl v' w' hr ?_
                        refine ⟨s60, s61, s62, s63, s64, s65, s66, s67, s68, (.slice (some ⟨g9, 0, none⟩) 1 1), v', s71, s72, s73, ?_, J.mark10 d4 d9 hu ho gb⟩
                        simp only [pt, Act.put, List.setIfInBounds_toArray, List.set_cons_zero, List.set_cons_succ]
                      · refine wpOp_step rfl (fun K hK => ?_)
                        go_simp
                        refine hK _ _ ⟨s60, s61, s62, s63, s64, s65, s66, s67, s68, s69, s70, (.slice (some ⟨gw, 0, none⟩) i cw), s72, s73, ?_, J.mark11⟩
                        simp only [pt, Act.put, List.setIfInBounds_toArray, List.set_cons_zero, List.set_cons_succ]
                      · refine wpOp_step rfl (fun K hK => ?_)
                        go_simp
                        refine hK _ _ ⟨s60, s61, s62, s63, s64, s65, s66, s67, s68, s69, s70, s71, (.int .i64 j), s73, ?_, J.mark12⟩
                        simp only [pt, Act.put, List.setIfInBounds_toArray, List.set_cons_zero, List.set_cons_succ]
                      · have d11 := hd ⟨11, .data⟩ (by simp) (by rfl)
                        obtain rfl := J.m11 d11
                        have d12 := hd ⟨12, .data⟩ (by simp) (by rfl)
                        obtain rfl := J.m12 d12
                        refine wpOp_step rfl (fun K hK => ?_)
                        go_simp
                        refine hK _ _ ⟨s60, s61, s62, s63, s64, s65, s66, s67, s68, s69, s70, (.slice (some ⟨gw, 0, none⟩) i cw), (.int .i64 j), (.slice (some ⟨gw, j * 4, none⟩) (i - j) (cw - j)), ?_, J.mark13⟩
                        simp only [pt, Act.put, List.setIfInBounds_toArray, List.set_cons_zero, List.set_cons_succ]
                    · intro a w hI
                      obtain ⟨s60, s61, s62, s63, s64, s65, s66, s67, s68, s69, s70, s71, s72, s73, rfl, J⟩ := hI
                      obtain rfl := J.m13 (by simp)
                      have o10 := J.o10 (by simp)
                      have bl := J.bl
                      have le := J.le
                      simp only [List.drop_succ_cons, List.drop_zero]
                      simp only [pt, Act.put, List.setIfInBounds_toArray, List.set_cons_zero, List.set_cons_succ]
                      obtain ⟨v', w', hr, ho, gb, hat⟩ := append23 o10 ⟨gw, j * 4, none⟩ (cw - j) ((W.map (·.1)).drop j) (src_drop (SRC.out w bl) j LJ.out) le (by have := LW.out; simp; omega)
                      rw [show ((W.map (·.1)).drop j).length = i - j by rw [List.length_drop, List.length_map, LW.out]] at hr
                      refine wpList_app rfl (.tmp 70) (.tmp 73) rfl _ _ rfl rfl v' w' hr ?_
                      have bl2 := bl.grown gb le (fun q hq => (World.ownsRow.lt o10 q hq).1)
                      have OO : Aside (Own w3.heap.size 23 w' v' ((insAt W j (x, i)).map (·.1))) := (FIN.out ho).mono (by omega)
                      have BB : Aside (Below w3.heap.size w3 w') := BWC.out.trans (bl2.mono (by omega))
                      clear J o10 bl bl2 hr ho gb hat
                      go_wp2
                      go_roundg (k - (i + 1))
                      case measure => omega
                      case rel => exact ⟨i + 1, _, insAt W j (x, i), rfl, by go_num, by omega, Nat.le_refl _, OO, WA2, BB, (fun e => by omega : i + 1 = 0 → _)⟩
        · have hltz : ¬ (i : Int) < (k : Int) := by omega
          obtain rfl : k = i := by omega
          have RW : r = (W.map (·.1)).toArray := WantAt.all (by rw [HQ.out]; exact WA.out) R1.out
          have hlW : (W.map (·.1)).length = k := by rw [List.length_map]; exact WA.out.len
          obtain ⟨gw, cw, ow⟩ := OW.out.at (by rw [hlW]; exact h0)
          have hv := ow.v
          rw [hlW] at hv
          subst hv
          have RS : Aside (∀ t, t < k → ∃ y x : Rk, OwnsY y x t k wr sB gw gm b off) := fun t ht => by
            have hy : t < (W.map (·.1)).length := by rw [hlW]; exact ht
            have hx : t < q.length := by rw [HQ.out]; exact ht
            obtain ⟨s0, s1, s2, s3⟩ := row_cell R3.out t (by rw [R2.out]; simp [HQ.out]; exact ht)
            have er : r[t]! = (W.map (·.1))[t] := by rw [RW, getElem!_pos _ t (by simpa using hy)]; simp
            rw [er] at s0 s1 s2 s3
            have om := OM3.out
            have ci := HC.out.keep BS.out hbl hsw
            refine ⟨(W.map (·.1))[t], q[t], ?_⟩
            exact ⟨(BW.out.cell (p := ⟨sB, _, none⟩) hsb).trans (by simpa using s0), (BW.out.cell (p := ⟨sB, _, none⟩) hsb).trans (by simpa [Nat.add_assoc] using s1), (BW.out.cell (p := ⟨sB, _, none⟩) hsb).trans (by simpa [Nat.add_assoc] using s2), (BW.out.cell (p := ⟨sB, _, none⟩) hsb).trans (by simpa [Nat.add_assoc] using s3),
              ow.c0 t hy, ow.c1 t hy, ow.c2 t hy, ow.c3 t hy,
              (BW.out.cell (p := ⟨gm, _, none⟩) om.lt).trans (om.c0 t hx), (BW.out.cell (p := ⟨gm, _, none⟩) om.lt).trans (om.c1 t hx), (BW.out.cell (p := ⟨gm, _, none⟩) om.lt).trans (om.c2 t hx), (BW.out.cell (p := ⟨gm, _, none⟩) om.lt).trans (om.c3 t hx),
              (BW.out.cell (p := ⟨b, _, none⟩) ci.lt).trans (ci.c0 t hx), (BW.out.cell (p := ⟨b, _, none⟩) ci.lt).trans (ci.c1 t hx), (BW.out.cell (p := ⟨b, _, none⟩) ci.lt).trans (ci.c2 t hx), (BW.out.cell (p := ⟨b, _, none⟩) ci.lt).trans (ci.c3 t hx)⟩
          have hkc : k ≤ cw := by have := ow.room; rwa [hlW] at this
          have hkm : k ≤ cm := by have := OM3.out.room; rwa [HQ.out] at this
          have BE : Aside (Below w.heap.size w wr) := BS.out.trans (BW.out.mono hsw)
          clear RW hlW ow OW WA BW NW R1 R2 R3 OM3 BS HC
          go_wp2_with fail
          go_loopg [9] k (fun kx s9 wz => ∃ i : Nat, s9 = .int .i64 i ∧ i ≤ k ∧ k - i ≤ kx ∧ Aside (Gr wr wz))
          case atStart => exact ⟨0, rfl, by omega, by omega, Gr.refl _⟩
          case round =>
            obtain ⟨i, rfl, hik, hkx, GZ⟩ := hrel
            by_cases hlt : i < k
            · have hiz : (i : Int) < (k : Int) := by omega
              obtain ⟨⟨yd, yb, yg, yi⟩, ⟨xd, xb, xg, xi⟩, R⟩ := RS.out i hlt
              have s0 := grc (gcell4 GZ.out R.s0); have s1 := grc (gcell4 GZ.out R.s1); have s2 := grc (gcell4 GZ.out R.s2); have s3 := grc (gcell4 GZ.out R.s3)
              have w0 := grc (gcell4 GZ.out R.w0); have w1 := grc (gcell4 GZ.out R.w1); have w2 := grc (gcell4 GZ.out R.w2); have w3 := grc (gcell4 GZ.out R.w3)
              have m0 := grc (gcell4 GZ.out R.m0); have m1 := grc (gcell4 GZ.out R.m1); have m2 := grc (gcell4 GZ.out R.m2); have m3 := grc (gcell4 GZ.out R.m3)
              have l0 := grc (gcell4 GZ.out R.l0); have l1 := grc (gcell4 GZ.out R.l1); have l2 := grc (gcell4 GZ.out R.l2); have l3 := grc (gcell4 GZ.out R.l3)
              simp only at s0 s1 s2 s3 w0 w1 w2 w3 m0 m1 m2 m3 l0 l1 l2 l3
              clear R
              go_wp2_with fail
              go_quiet_grown (first | (go_at_call 11; refine Calls.grown_of (made4 _ _ _ _ _)))
              go_wp2
              go_roundg (k - (i + 1))
              case measure => omega
              case rel => exact ⟨i + 1, by go_num, by omega, Nat.le_refl _, GZ.out.trans ⟨_, _, rfl⟩⟩
            · have hiz : ¬ (i : Int) < (k : Int) := by omega
              go_wp2
              go_ret
              exact ⟨rfl, below_of_gr BE.out GZ.out BE.out.size⟩
set_option maxRecDepth 100000 in
set_option maxHeartbeats 8000000 in
theorem walkBig (a : Option Addr) (n cap : Nat) (w : World) (hn : 200 < n) :
    Calls Try.prog 4 #[.slice a n cap] w fun e w' => e = .returned (.bool true) ∧ Below w.heap.size w w' := by
  have hd : decide ((n : Int) > 200) = true := by simp; omega
  go_enter Try.func4, Try.ntmps4
  go_wp2_with fail
  refine (awake_true _).mono ?_
  rintro e w1 ⟨rfl, g1⟩
  go_wp2
  go_ret
  exact ⟨rfl, g1.below⟩

set_option maxRecDepth 100000 in
set_option maxHeartbeats 8000000 in
theorem walk0 (a : Option Addr) (cap : Nat) (w : World) :
    Calls Try.prog 4 #[.slice a (0 : Nat) cap] w fun e w' => e = .returned (.bool true) ∧ Below w.heap.size w w' := by
  go_enter Try.func4, Try.ntmps4
  go_wp2_with fail
  refine (awake_true _).mono ?_
  rintro e w1 ⟨rfl, g1⟩
  go_wp2_with fail
  refine wp_loop_rounds 1 ?_
  rw [rounds_succ]
  go_wp2_with fail
  refine (sort_nil _).mono ?_
  rintro e w2 ⟨rfl, r, hr1, hr2, hr3, g2⟩
  clear hr1 hr2 hr3 r
  go_wp2_with fail
  refine wp_loop_rounds 1 ?_
  rw [rounds_succ]
  go_wp2_with fail
  refine wp_loop_rounds 1 ?_
  rw [rounds_succ]
  go_wp2_with fail
  go_ret
  exact ⟨rfl, (g1.trans g2).below⟩
end Go.Proofs.Ytpaiaoaffoeleaa
