/- The law HeapSorts walked. -/
import Derived.Test.YtfbgjlfepnbcgaaY6
namespace Go.Proofs.Ytfbgjlfepnbcgaa
open Go.RowKit Go.Lib
set_option linter.unusedVariables false

set_option maxRecDepth 100000 in
set_option maxHeartbeats 2000000 in
theorem sorts_walk_true (b0 o0 N c0 : Nat) (q : Nat → Rk) (w : World) (hN : N ≤ 300) (hb0 : b0 < w.heap.size) (r0 : RksIn w b0 o0 N q) :
    Calls Try.prog 4 #[.bool true, .slice (some ⟨b0, o0, none⟩) N c0] w fun e w' => e = .returned (.bool true) ∧ Below w.heap.size w w' := by
  have CA := Lib.hid (awake_true w)
  have CM := Lib.hid made_any
  have R0 : Hid (∀ w', Below w.heap.size w w' → RksIn w' b0 o0 N q) := fun w' hb i hi => (r0 i hi).keep (hb.block b0 hb0)
  clear r0
  have d1 : ¬ (N : Int) > 300 := by omega
  go_enter Try.func4, Try.ntmps4
  go_wp2_with fail
  refine CA.out.mono ?_
  rintro e w1 ⟨rfl, B1⟩
  have C := Lib.hid (hl_new B1 2)
  clear CA B1
  go_wp2_with fail
  refine C.out.mono ?_
  rintro e w2 ⟨rfl, H2, g2⟩
  have A2 := Lib.hid H2
  clear C H2 g2
  generalize w1.heap.size = p at *
  go_wp2_with fail
  go_loopg [7] N (fun kx s7 wr => ∃ (i : Nat) (F : Nat → Prop), s7 = .int .i64 i ∧ i ≤ N ∧ N - i ≤ kx ∧ Aside (Hl w wr p 2 F i (upto q i)))
  case atStart => exact ⟨0, _, rfl, by omega, by omega, by
      have e : upto q 0 = fun _ => none := by funext s; simp [upto]
      show Hl _ _ _ _ _ _ _
      rw [e]; exact A2.out⟩
  case round =>
    clear A2
    obtain ⟨i, F, rfl, hi, hkx, D⟩ := hrel
    by_cases hlt : i < N
    · have hltz : (i : Int) < (N : Int) := by omega
      obtain ⟨t0, t1, t2, t3⟩ := R0.out _ D.out.below i hlt
      have CP : Hid (∀ W, Gr wr W → Calls Try.prog 11 #[.pointer (some ⟨p, 0, none⟩), .int .i64 i, V (q i)] W fun e w' => e = .returned (.int .i64 0) ∧ ∃ F', Hl w w' p 2 F' (i + 1) (upto q (i + 1))) := fun W g => by
        refine (hl_put_new (D.out.gr g) i (by omega) (q i) (upto_none q i)).mono ?_
        rintro e w' ⟨rfl, F', a, v⟩
        rw [upto_step] at a
        exact ⟨rfl, F', a⟩
      clear D
      generalize q i = x at *
      obtain ⟨xd, xb, xg, xi⟩ := x
      simp only at t0 t1 t2 t3 CP
      go_wp2_with fail
      refine (CM.out ⟨xd, xb, xg, xi⟩ _).mono ?_
      rintro e w3 ⟨rfl, g3⟩
      have G3 := Lib.hid g3
      clear g3 t0 t1 t2 t3
      go_wp2_with fail
      refine (CP.out _ G3.out).mono ?_
      rintro e w4 ⟨rfl, F4, D4⟩
      have DD := Lib.hid D4
      clear CP D4 G3
      go_wp2
      go_roundg (N - (i + 1))
      case measure => omega
      case rel => exact ⟨i + 1, F4, by go_num, by omega, by omega, DD.out⟩
    · have hltz : ¬ (i : Int) < (N : Int) := by omega
      obtain rfl : i = N := by omega
      go_wp2_with fail
      have S0 : Hid (So w (wr.alloc (.cells #[.int .i64 0, .int .i64 (-1), .int .i64 0, .int .i64 0, .int .i64 0, .int .i64 0] 29)) p 2 F i (upto q i) wr.heap.size 0 (-1) ⟨0, 0, 0, 0⟩ i q) :=
        { hl := D.out.gr ((Ke.refl _ _).alloc _)
          bz := ⟨by simp [go_sem], by simp [go_sem], by simp [go_sem], by simp [go_sem], by simp [go_sem], by simp [go_sem]⟩
          fz := fun j => by simp
          nZ := fun h => by have := (D.out.st.lt h).2; omega
          bZ := D.out.below.size
          sub := fun s r h => by
            unfold upto at h
            split at h
            · cases h; exact ⟨by assumption, rfl⟩
            · cases h }
      clear D
      generalize wr.heap.size = Z at *
      go_loopg [9] i (fun ky s9 wz => ∃ (j n : Nat) (M : Nat → Option Rk) (o sl : Int) (lr : Rk), s9 = .int .i64 j ∧ n + j = i ∧ n ≤ ky ∧ Aside (So w wz p 2 F n M Z o sl lr i q ∧ La 2 M sl lr))
      case atStart => exact ⟨0, i, _, _, _, _, rfl, by omega, Nat.le_refl _, S0.out, .inl rfl⟩
      case round =>
        clear S0 hkx
        obtain ⟨j, n, M, o, sl, lr, rfl, hnj, hky, D⟩ := hrel
        rcases Nat.eq_zero_or_pos n with rfl | hn
        · have hjz : ¬ (j : Int) < (i : Int) := by omega
          have C := Lib.hid (hl_pop_none D.out.1.hl)
          clear D
          go_wp2_with fail
          refine C.out.mono ?_
          rintro e w6 ⟨rfl, H6, v6⟩
          have HH := Lib.hid (H6.gr ((Ke.refl _ _).alloc (.cells #[.int .i64 0, .int .i64 0, .int .i64 0, .int .i64 0] 33)))
          clear C H6 v6
          have C := Lib.hid (hl_len HH.out)
          go_wp2_with fail
          refine C.out.mono ?_
          rintro e w7 ⟨rfl, hw⟩
          obtain rfl := hw.symm
          clear C hw
          go_wp2
          go_ret
          exact ⟨rfl, HH.out.below⟩
        · have hjz : (j : Int) < (i : Int) := by omega
          obtain ⟨m, rfl⟩ : ∃ m, n = m + 1 := ⟨n - 1, by omega⟩
          obtain ⟨s, r, hf, h6⟩ := st_first D.out.1.hl.st (by omega)
          obtain ⟨⟨hsN, hr⟩, hla, hls⟩ := D.out.1.first D.out.2 hf
          have hsz : (s : Int) < (i : Int) := by omega
          have C := Lib.hid (hl_pop D.out.1.hl s r hf)
          have D1 := Lib.hid D.out.1
          have LA := Lib.hid hla
          clear D hla hf
          subst hr
          go_wp2_with fail
          refine C.out.mono ?_
          rintro e w6 ⟨rfl, H6, v6⟩
          have D6 := Lib.hid (D1.out.pop s H6 v6)
          clear C D1 H6 v6
          go_upto_region 21 with fail
          obtain ⟨x, hx⟩ : ∃ x, q s = x := ⟨_, rfl⟩
          obtain ⟨xd, xb, xg, xi⟩ := x
          rw [hx] at LA hls ⊢
          obtain ⟨w7, hw7⟩ : ∃ w7, w7 = w6.alloc (.cells #[.int .i64 xd, .int .i64 xb, .int .i64 xg, .int .i64 xi] 33) := ⟨_, rfl⟩
          have D7 : Hid (So w w7 p 2 F m (upd M s none) Z o sl lr i q) := by rw [hw7]; exact D6.out.gr ((Ke.refl _ _).alloc _)
          have x0 : w7.cell? ⟨w6.heap.size, 0, none⟩ = some (.int .i64 xd) := by rw [hw7]; simp [go_sem]
          have x1 : w7.cell? ⟨w6.heap.size, 1, none⟩ = some (.int .i64 xb) := by rw [hw7]; simp [go_sem]
          have x2 : w7.cell? ⟨w6.heap.size, 2, none⟩ = some (.int .i64 xg) := by rw [hw7]; simp [go_sem]
          have x3 : w7.cell? ⟨w6.heap.size, 3, none⟩ = some (.int .i64 xi) := by rw [hw7]; simp [go_sem]
          obtain ⟨t0, t1, t2, t3⟩ := R0.out _ D7.out.hl.below s hsN
          rw [hx] at t0 t1 t2 t3
          simp only at t0 t1 t2 t3
          rw [← hw7]
          clear D6 hw7 hx
          generalize w6.heap.size = X at *
          have ds : decide ((s : Int) < 0) = false := by simp
          have dn : decide ((i : Int) ≤ (s : Int)) = false := by simp; omega
          have dn2 : decide (i ≤ s) = false := by simp; omega
          have dn3 : ¬ i ≤ s := by omega
          have AZ : Hid (∀ W, Gr w7 W → So w W p 2 F m (upd M s none) Z o sl lr i q) := fun W g => D7.out.gr g
          clear D7
          have kx0 := gw_cell x0
          have kx1 := gw_cell x1
          have kx2 := gw_cell x2
          have kx3 := gw_cell x3
          have kt0 := gw_cell t0
          have kt1 := gw_cell t1
          have kt2 := gw_cell t2
          have kt3 := gw_cell t3
          have CV : Hid (∀ W, Calls Try.prog 12 #[.agg #[.int .i64 xd, .int .i64 xb, .int .i64 xg, .int .i64 xi]] W fun e w' => e = .returned (.agg #[.int .i64 xd, .int .i64 xb, .int .i64 xg, .int .i64 xi]) ∧ Gr W w') := fun W => made_any ⟨xd, xb, xg, xi⟩ W
          have hne : Nonempty (GW w7) := ⟨⟨w7, Ke.refl _ _⟩⟩
          have hself := @gw_self w7
          have hself' : ∀ p : GW w7, ∃ q : GW w7, q.W = p.W := fun p => ⟨p, rfl⟩
          clear x0 x1 x2 x3 t0 t1 t2 t3
          refine wp_region_gw (by kernel_rfl) (by kernel_rfl) ?_
          repeat (go_big_quiet_step (first | (go_at_call 12; exact gw_of (CV.out _))))
          refine wpQuiet_nil ?_
          intro _ hw'
          obtain ⟨pp, hw''⟩ := hw'
          subst hw''
          have t0 := kt0 pp
          have t1 := kt1 pp
          have t2 := kt2 pp
          have t3 := kt3 pp
          have D8 := Lib.hid (AZ.out pp.W pp.gr)
          clear kx0 kx1 kx2 kx3 kt0 kt1 kt2 kt3 hself hself' hne AZ CV
          generalize pp.W = W5 at *
          clear pp
          obtain ⟨W9, hW9⟩ : ∃ W9, W9 = W5.alloc (.cells #[.int .i64 0, .int .i64 s, .int .i64 xd, .int .i64 xb, .int .i64 xg, .int .i64 xi] 29) := ⟨_, rfl⟩
          have D9 : Hid (So w W9 p 2 F m (upd M s none) Z o sl lr i q) := by rw [hW9]; exact D8.out.gr ((Ke.refl _ _).alloc _)
          have Y9 : Hid (BoxD W9 W5.heap.size 0 s ⟨xd, xb, xg, xi⟩) := by rw [hW9]; exact ⟨by simp [go_sem], by simp [go_sem], by simp [go_sem], by simp [go_sem], by simp [go_sem], by simp [go_sem]⟩
          have HW9 := Lib.hid hW9
          have hYZ : ¬ W5.heap.size = Z := by
            have : Z < W5.heap.size := lt_of_cell D8.out.bz.b0
            omega
          clear hW9 D8
          go_upto_region 24 with fail
          rw [← HW9.out]
          clear HW9 t0 t1 t2 t3
          generalize W5.heap.size = Y at *
          obtain ⟨z0, z1, z2, z3, z4, z5⟩ := D9.out.bz
          obtain ⟨y0, y1, y2, y3, y4, y5⟩ := Y9.out
          obtain ⟨ld, lb, lg, li⟩ := lr
          simp only at z0 z1 z2 z3 z4 z5 y0 y1 y2 y3 y4 y5
          rcases hls with rfl | ⟨ls, rfl, hah⟩
          · have f0 := D9.out.fz 0
            have f1 := D9.out.fz 1
            have f2 := D9.out.fz 2
            have f3 := D9.out.fz 3
            have f4 := D9.out.fz 4
            have f5 := D9.out.fz 5
            have N := Lib.hid (D9.out.set 0 s ⟨xd, xb, xg, xi⟩)
            clear D9 Y9
            go_wp2
            go_roundg m
            case measure => omega
            case rel => exact ⟨j + 1, m, _, _, _, _, by go_num, by omega, Nat.le_refl _, N.out, LA.out⟩
          · have C := Lib.hid (fun W => dless_any 2 o 0 ⟨ls, ld, lb, lg, li⟩ ⟨s, xd, xb, xg, xi⟩ W)
            rw [hah] at C
            have dl : decide ((ls : Int) ≥ 0) = true := by simp
            have AZ : Hid (∀ W, Gr W9 W → So w W p 2 F m (upd M s none) Z o ls ⟨ld, lb, lg, li⟩ i q ∧ BoxD W Y 0 s ⟨xd, xb, xg, xi⟩) := fun W g => ⟨D9.out.gr g, Y9.out.ke g (fun x => x)⟩
            clear D9 Y9 hah
            go_wp2_with fail
            refine (C.out _).mono ?_
            rintro e w10 ⟨rfl, g10⟩
            obtain ⟨D10, Y10⟩ := AZ.out _ g10
            clear z0 z1 z2 z3 z4 z5 y0 y1 y2 y3 y4 y5
            obtain ⟨z0, z1, z2, z3, z4, z5⟩ := D10.bz
            obtain ⟨y0, y1, y2, y3, y4, y5⟩ := Y10
            simp only at z0 z1 z2 z3 z4 z5 y0 y1 y2 y3 y4 y5
            have f0 := D10.fz 0
            have f1 := D10.fz 1
            have f2 := D10.fz 2
            have f3 := D10.fz 3
            have f4 := D10.fz 4
            have f5 := D10.fz 5
            have N := Lib.hid (D10.set 0 s ⟨xd, xb, xg, xi⟩)
            clear D10 AZ C g10
            go_wp2
            go_roundg m
            case measure => omega
            case rel => exact ⟨j + 1, m, _, _, _, _, by go_num, by omega, Nat.le_refl _, N.out, LA.out⟩

set_option maxRecDepth 100000 in
set_option maxHeartbeats 2000000 in
theorem sorts_walk_false (b0 o0 N c0 : Nat) (q : Nat → Rk) (w : World) (hN : N ≤ 300) (hb0 : b0 < w.heap.size) (r0 : RksIn w b0 o0 N q) :
    Calls Try.prog 4 #[.bool false, .slice (some ⟨b0, o0, none⟩) N c0] w fun e w' => e = .returned (.bool true) ∧ Below w.heap.size w w' := by
  have CA := Lib.hid (awake_true w)
  have CM := Lib.hid made_any
  have R0 : Hid (∀ w', Below w.heap.size w w' → RksIn w' b0 o0 N q) := fun w' hb i hi => (r0 i hi).keep (hb.block b0 hb0)
  clear r0
  have d1 : ¬ (N : Int) > 300 := by omega
  go_enter Try.func4, Try.ntmps4
  go_wp2_with fail
  refine CA.out.mono ?_
  rintro e w1 ⟨rfl, B1⟩
  have C := Lib.hid (hl_new B1 1)
  clear CA B1
  go_wp2_with fail
  refine C.out.mono ?_
  rintro e w2 ⟨rfl, H2, g2⟩
  have A2 := Lib.hid H2
  clear C H2 g2
  generalize w1.heap.size = p at *
  go_wp2_with fail
  go_loopg [7] N (fun kx s7 wr => ∃ (i : Nat) (F : Nat → Prop), s7 = .int .i64 i ∧ i ≤ N ∧ N - i ≤ kx ∧ Aside (Hl w wr p 1 F i (upto q i)))
  case atStart => exact ⟨0, _, rfl, by omega, by omega, by
      have e : upto q 0 = fun _ => none := by funext s; simp [upto]
      show Hl _ _ _ _ _ _ _
      rw [e]; exact A2.out⟩
  case round =>
    clear A2
    obtain ⟨i, F, rfl, hi, hkx, D⟩ := hrel
    by_cases hlt : i < N
    · have hltz : (i : Int) < (N : Int) := by omega
      obtain ⟨t0, t1, t2, t3⟩ := R0.out _ D.out.below i hlt
      have CP : Hid (∀ W, Gr wr W → Calls Try.prog 11 #[.pointer (some ⟨p, 0, none⟩), .int .i64 i, V (q i)] W fun e w' => e = .returned (.int .i64 0) ∧ ∃ F', Hl w w' p 1 F' (i + 1) (upto q (i + 1))) := fun W g => by
        refine (hl_put_new (D.out.gr g) i (by omega) (q i) (upto_none q i)).mono ?_
        rintro e w' ⟨rfl, F', a, v⟩
        rw [upto_step] at a
        exact ⟨rfl, F', a⟩
      clear D
      generalize q i = x at *
      obtain ⟨xd, xb, xg, xi⟩ := x
      simp only at t0 t1 t2 t3 CP
      go_wp2_with fail
      refine (CM.out ⟨xd, xb, xg, xi⟩ _).mono ?_
      rintro e w3 ⟨rfl, g3⟩
      have G3 := Lib.hid g3
      clear g3 t0 t1 t2 t3
      go_wp2_with fail
      refine (CP.out _ G3.out).mono ?_
      rintro e w4 ⟨rfl, F4, D4⟩
      have DD := Lib.hid D4
      clear CP D4 G3
      go_wp2
      go_roundg (N - (i + 1))
      case measure => omega
      case rel => exact ⟨i + 1, F4, by go_num, by omega, by omega, DD.out⟩
    · have hltz : ¬ (i : Int) < (N : Int) := by omega
      obtain rfl : i = N := by omega
      go_wp2_with fail
      have S0 : Hid (So w (wr.alloc (.cells #[.int .i64 0, .int .i64 (-1), .int .i64 0, .int .i64 0, .int .i64 0, .int .i64 0] 29)) p 1 F i (upto q i) wr.heap.size 0 (-1) ⟨0, 0, 0, 0⟩ i q) :=
        { hl := D.out.gr ((Ke.refl _ _).alloc _)
          bz := ⟨by simp [go_sem], by simp [go_sem], by simp [go_sem], by simp [go_sem], by simp [go_sem], by simp [go_sem]⟩
          fz := fun j => by simp
          nZ := fun h => by have := (D.out.st.lt h).2; omega
          bZ := D.out.below.size
          sub := fun s r h => by
            unfold upto at h
            split at h
            · cases h; exact ⟨by assumption, rfl⟩
            · cases h }
      clear D
      generalize wr.heap.size = Z at *
      go_loopg [9] i (fun ky s9 wz => ∃ (j n : Nat) (M : Nat → Option Rk) (o sl : Int) (lr : Rk), s9 = .int .i64 j ∧ n + j = i ∧ n ≤ ky ∧ Aside (So w wz p 1 F n M Z o sl lr i q ∧ La 1 M sl lr))
      case atStart => exact ⟨0, i, _, _, _, _, rfl, by omega, Nat.le_refl _, S0.out, .inl rfl⟩
      case round =>
        clear S0 hkx
        obtain ⟨j, n, M, o, sl, lr, rfl, hnj, hky, D⟩ := hrel
        rcases Nat.eq_zero_or_pos n with rfl | hn
        · have hjz : ¬ (j : Int) < (i : Int) := by omega
          have C := Lib.hid (hl_pop_none D.out.1.hl)
          clear D
          go_wp2_with fail
          refine C.out.mono ?_
          rintro e w6 ⟨rfl, H6, v6⟩
          have HH := Lib.hid (H6.gr ((Ke.refl _ _).alloc (.cells #[.int .i64 0, .int .i64 0, .int .i64 0, .int .i64 0] 33)))
          clear C H6 v6
          have C := Lib.hid (hl_len HH.out)
          go_wp2_with fail
          refine C.out.mono ?_
          rintro e w7 ⟨rfl, hw⟩
          obtain rfl := hw.symm
          clear C hw
          go_wp2
          go_ret
          exact ⟨rfl, HH.out.below⟩
        · have hjz : (j : Int) < (i : Int) := by omega
          obtain ⟨m, rfl⟩ : ∃ m, n = m + 1 := ⟨n - 1, by omega⟩
          obtain ⟨s, r, hf, h6⟩ := st_first D.out.1.hl.st (by omega)
          obtain ⟨⟨hsN, hr⟩, hla, hls⟩ := D.out.1.first D.out.2 hf
          have hsz : (s : Int) < (i : Int) := by omega
          have C := Lib.hid (hl_pop D.out.1.hl s r hf)
          have D1 := Lib.hid D.out.1
          have LA := Lib.hid hla
          clear D hla hf
          subst hr
          go_wp2_with fail
          refine C.out.mono ?_
          rintro e w6 ⟨rfl, H6, v6⟩
          have D6 := Lib.hid (D1.out.pop s H6 v6)
          clear C D1 H6 v6
          go_upto_region 21 with fail
          obtain ⟨x, hx⟩ : ∃ x, q s = x := ⟨_, rfl⟩
          obtain ⟨xd, xb, xg, xi⟩ := x
          rw [hx] at LA hls ⊢
          obtain ⟨w7, hw7⟩ : ∃ w7, w7 = w6.alloc (.cells #[.int .i64 xd, .int .i64 xb, .int .i64 xg, .int .i64 xi] 33) := ⟨_, rfl⟩
          have D7 : Hid (So w w7 p 1 F m (upd M s none) Z o sl lr i q) := by rw [hw7]; exact D6.out.gr ((Ke.refl _ _).alloc _)
          have x0 : w7.cell? ⟨w6.heap.size, 0, none⟩ = some (.int .i64 xd) := by rw [hw7]; simp [go_sem]
          have x1 : w7.cell? ⟨w6.heap.size, 1, none⟩ = some (.int .i64 xb) := by rw [hw7]; simp [go_sem]
          have x2 : w7.cell? ⟨w6.heap.size, 2, none⟩ = some (.int .i64 xg) := by rw [hw7]; simp [go_sem]
          have x3 : w7.cell? ⟨w6.heap.size, 3, none⟩ = some (.int .i64 xi) := by rw [hw7]; simp [go_sem]
          obtain ⟨t0, t1, t2, t3⟩ := R0.out _ D7.out.hl.below s hsN
          rw [hx] at t0 t1 t2 t3
          simp only at t0 t1 t2 t3
          rw [← hw7]
          clear D6 hw7 hx
          generalize w6.heap.size = X at *
          have ds : decide ((s : Int) < 0) = false := by simp
          have dn : decide ((i : Int) ≤ (s : Int)) = false := by simp; omega
          have dn2 : decide (i ≤ s) = false := by simp; omega
          have dn3 : ¬ i ≤ s := by omega
          have AZ : Hid (∀ W, Gr w7 W → So w W p 1 F m (upd M s none) Z o sl lr i q) := fun W g => D7.out.gr g
          clear D7
          have kx0 := gw_cell x0
          have kx1 := gw_cell x1
          have kx2 := gw_cell x2
          have kx3 := gw_cell x3
          have kt0 := gw_cell t0
          have kt1 := gw_cell t1
          have kt2 := gw_cell t2
          have kt3 := gw_cell t3
          have CV : Hid (∀ W, Calls Try.prog 12 #[.agg #[.int .i64 xd, .int .i64 xb, .int .i64 xg, .int .i64 xi]] W fun e w' => e = .returned (.agg #[.int .i64 xd, .int .i64 xb, .int .i64 xg, .int .i64 xi]) ∧ Gr W w') := fun W => made_any ⟨xd, xb, xg, xi⟩ W
          have hne : Nonempty (GW w7) := ⟨⟨w7, Ke.refl _ _⟩⟩
          have hself := @gw_self w7
          have hself' : ∀ p : GW w7, ∃ q : GW w7, q.W = p.W := fun p => ⟨p, rfl⟩
          clear x0 x1 x2 x3 t0 t1 t2 t3
          refine wp_region_gw (by kernel_rfl) (by kernel_rfl) ?_
          repeat (go_big_quiet_step (first | (go_at_call 12; exact gw_of (CV.out _))))
          refine wpQuiet_nil ?_
          intro _ hw'
          obtain ⟨pp, hw''⟩ := hw'
          subst hw''
          have t0 := kt0 pp
          have t1 := kt1 pp
          have t2 := kt2 pp
          have t3 := kt3 pp
          have D8 := Lib.hid (AZ.out pp.W pp.gr)
          clear kx0 kx1 kx2 kx3 kt0 kt1 kt2 kt3 hself hself' hne AZ CV
          generalize pp.W = W5 at *
          clear pp
          obtain ⟨W9, hW9⟩ : ∃ W9, W9 = W5.alloc (.cells #[.int .i64 0, .int .i64 s, .int .i64 xd, .int .i64 xb, .int .i64 xg, .int .i64 xi] 29) := ⟨_, rfl⟩
          have D9 : Hid (So w W9 p 1 F m (upd M s none) Z o sl lr i q) := by rw [hW9]; exact D8.out.gr ((Ke.refl _ _).alloc _)
          have Y9 : Hid (BoxD W9 W5.heap.size 0 s ⟨xd, xb, xg, xi⟩) := by rw [hW9]; exact ⟨by simp [go_sem], by simp [go_sem], by simp [go_sem], by simp [go_sem], by simp [go_sem], by simp [go_sem]⟩
          have HW9 := Lib.hid hW9
          have hYZ : ¬ W5.heap.size = Z := by
            have : Z < W5.heap.size := lt_of_cell D8.out.bz.b0
            omega
          clear hW9 D8
          go_upto_region 24 with fail
          rw [← HW9.out]
          clear HW9 t0 t1 t2 t3
          generalize W5.heap.size = Y at *
          obtain ⟨z0, z1, z2, z3, z4, z5⟩ := D9.out.bz
          obtain ⟨y0, y1, y2, y3, y4, y5⟩ := Y9.out
          obtain ⟨ld, lb, lg, li⟩ := lr
          simp only at z0 z1 z2 z3 z4 z5 y0 y1 y2 y3 y4 y5
          rcases hls with rfl | ⟨ls, rfl, hah⟩
          · have f0 := D9.out.fz 0
            have f1 := D9.out.fz 1
            have f2 := D9.out.fz 2
            have f3 := D9.out.fz 3
            have f4 := D9.out.fz 4
            have f5 := D9.out.fz 5
            have N := Lib.hid (D9.out.set 0 s ⟨xd, xb, xg, xi⟩)
            clear D9 Y9
            go_wp2
            go_roundg m
            case measure => omega
            case rel => exact ⟨j + 1, m, _, _, _, _, by go_num, by omega, Nat.le_refl _, N.out, LA.out⟩
          · have C := Lib.hid (fun W => dless_any 1 o 0 ⟨ls, ld, lb, lg, li⟩ ⟨s, xd, xb, xg, xi⟩ W)
            rw [hah] at C
            have dl : decide ((ls : Int) ≥ 0) = true := by simp
            have AZ : Hid (∀ W, Gr W9 W → So w W p 1 F m (upd M s none) Z o ls ⟨ld, lb, lg, li⟩ i q ∧ BoxD W Y 0 s ⟨xd, xb, xg, xi⟩) := fun W g => ⟨D9.out.gr g, Y9.out.ke g (fun x => x)⟩
            clear D9 Y9 hah
            go_wp2_with fail
            refine (C.out _).mono ?_
            rintro e w10 ⟨rfl, g10⟩
            obtain ⟨D10, Y10⟩ := AZ.out _ g10
            clear z0 z1 z2 z3 z4 z5 y0 y1 y2 y3 y4 y5
            obtain ⟨z0, z1, z2, z3, z4, z5⟩ := D10.bz
            obtain ⟨y0, y1, y2, y3, y4, y5⟩ := Y10
            simp only at z0 z1 z2 z3 z4 z5 y0 y1 y2 y3 y4 y5
            have f0 := D10.fz 0
            have f1 := D10.fz 1
            have f2 := D10.fz 2
            have f3 := D10.fz 3
            have f4 := D10.fz 4
            have f5 := D10.fz 5
            have N := Lib.hid (D10.set 0 s ⟨xd, xb, xg, xi⟩)
            clear D10 AZ C g10
            go_wp2
            go_roundg m
            case measure => omega
            case rel => exact ⟨j + 1, m, _, _, _, _, by go_num, by omega, Nat.le_refl _, N.out, LA.out⟩

set_option maxRecDepth 100000 in
set_option maxHeartbeats 2000000 in
theorem sorts_none_true (a : Option Addr) (c0 : Nat) (w : World) : Calls Try.prog 4 #[.bool true, .slice a (0 : Nat) c0] w fun e w' => e = .returned (.bool true) ∧ Below w.heap.size w w' := by
  have CA := Lib.hid (awake_true w)
  go_enter Try.func4, Try.ntmps4
  go_wp2_with fail
  refine CA.out.mono ?_
  rintro e w1 ⟨rfl, B1⟩
  have C := Lib.hid (hl_new B1 2)
  clear CA B1
  go_wp2_with fail
  refine C.out.mono ?_
  rintro e w2 ⟨rfl, H2, g2⟩
  have A2 := Lib.hid H2
  clear C H2 g2
  generalize w1.heap.size = p at *
  go_wp2_with fail
  refine wp_loop_rounds 1 ?_
  rw [rounds_succ]
  go_wp2_with fail
  refine wp_loop_rounds 1 ?_
  rw [rounds_succ]
  have A3 := Lib.hid (A2.out.gr ((Ke.refl _ _).alloc (.cells #[.int .i64 0, .int .i64 (-1), .int .i64 0, .int .i64 0, .int .i64 0, .int .i64 0] 29)))
  have C := Lib.hid (hl_pop_none A3.out)
  go_wp2_with fail
  refine C.out.mono ?_
  rintro e w6 ⟨rfl, H6, v6⟩
  have HH := Lib.hid (H6.gr ((Ke.refl _ _).alloc (.cells #[.int .i64 0, .int .i64 0, .int .i64 0, .int .i64 0] 33)))
  clear C H6 v6
  have C := Lib.hid (hl_len HH.out)
  go_wp2_with fail
  refine C.out.mono ?_
  rintro e w7 ⟨rfl, hw⟩
  obtain rfl := hw.symm
  clear C hw
  go_wp2
  go_ret
  exact ⟨rfl, HH.out.below⟩

set_option maxRecDepth 100000 in
set_option maxHeartbeats 2000000 in
theorem sorts_none_false (a : Option Addr) (c0 : Nat) (w : World) : Calls Try.prog 4 #[.bool false, .slice a (0 : Nat) c0] w fun e w' => e = .returned (.bool true) ∧ Below w.heap.size w w' := by
  have CA := Lib.hid (awake_true w)
  go_enter Try.func4, Try.ntmps4
  go_wp2_with fail
  refine CA.out.mono ?_
  rintro e w1 ⟨rfl, B1⟩
  have C := Lib.hid (hl_new B1 1)
  clear CA B1
  go_wp2_with fail
  refine C.out.mono ?_
  rintro e w2 ⟨rfl, H2, g2⟩
  have A2 := Lib.hid H2
  clear C H2 g2
  generalize w1.heap.size = p at *
  go_wp2_with fail
  refine wp_loop_rounds 1 ?_
  rw [rounds_succ]
  go_wp2_with fail
  refine wp_loop_rounds 1 ?_
  rw [rounds_succ]
  have A3 := Lib.hid (A2.out.gr ((Ke.refl _ _).alloc (.cells #[.int .i64 0, .int .i64 (-1), .int .i64 0, .int .i64 0, .int .i64 0, .int .i64 0] 29)))
  have C := Lib.hid (hl_pop_none A3.out)
  go_wp2_with fail
  refine C.out.mono ?_
  rintro e w6 ⟨rfl, H6, v6⟩
  have HH := Lib.hid (H6.gr ((Ke.refl _ _).alloc (.cells #[.int .i64 0, .int .i64 0, .int .i64 0, .int .i64 0] 33)))
  clear C H6 v6
  have C := Lib.hid (hl_len HH.out)
  go_wp2_with fail
  refine C.out.mono ?_
  rintro e w7 ⟨rfl, hw⟩
  obtain rfl := hw.symm
  clear C hw
  go_wp2
  go_ret
  exact ⟨rfl, HH.out.below⟩

set_option maxHeartbeats 2000000 in
theorem sorts_big (b : Bool) (a : Option Addr) (n c0 : Nat) (w : World) (h : 300 < n) : Calls Try.prog 4 #[.bool b, .slice a n c0] w fun e w' => e = .returned (.bool true) ∧ Below w.heap.size w w' := by
  have CA := Lib.hid (awake_true w)
  have d1 : (n : Int) > 300 := by omega
  go_enter Try.func4, Try.ntmps4
  go_wp2_with fail
  refine CA.out.mono ?_
  rintro e w1 ⟨rfl, B1⟩
  have BB := Lib.hid B1
  clear CA B1
  go_wp2
  go_ret
  exact ⟨rfl, BB.out⟩

theorem sorts_all (b : Bool) (a : Option Addr) (n c0 : Nat) (w : World) (h : ElemsIn w 4 rkCells a n) : Calls Try.prog 4 #[.bool b, .slice a n c0] w fun e w' => e = .returned (.bool true) ∧ Below w.heap.size w w' := by
  by_cases h1 : 300 < n
  · exact sorts_big b a n c0 w h1
  · rcases Nat.eq_zero_or_pos n with rfl | hp
    · cases b
      · exact sorts_none_false a c0 w
      · exact sorts_none_true a c0 w
    · rcases h with e | ⟨b0, o0, q, rfl, hb0, hq⟩
      · omega
      · cases b
        · exact sorts_walk_false b0 o0 n c0 q w (by omega) hb0 (rks_of hq)
        · exact sorts_walk_true b0 o0 n c0 q w (by omega) hb0 (rks_of hq)
end Go.Proofs.Ytfbgjlfepnbcgaa
