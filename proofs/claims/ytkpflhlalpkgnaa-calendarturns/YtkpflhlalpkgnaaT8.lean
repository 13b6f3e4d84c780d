/- CalendarTurns, walked. -/
import Derived.Test.YtkpflhlalpkgnaaS8
namespace Go.Proofs.Ytkpflhlalpkgnaa
open Go.RowKit Go.Lib Go.Maps
set_option linter.unusedVariables false

set_option maxRecDepth 100000 in
set_option maxHeartbeats 2000000 in
theorem turns_big (a : Option Addr) (n c0 : Nat) (w : World) (h : 100 < n) : Calls Try.prog 4 #[.slice a n c0] w fun e w' => e = .returned (.bool true) ∧ Below w.heap.size w w' := by
  have CA := Lib.hid (awake_true w)
  have d1 : (n : Int) > 100 := by omega
  go_enter Try.func4, Try.ntmps4
  go_wp2_with fail
  refine CA.out.mono ?_
  rintro e w1 ⟨rfl, B1⟩
  have BB := Lib.hid B1
  clear CA B1
  go_wp2
  go_ret
  exact ⟨rfl, BB.out⟩

set_option maxRecDepth 100000 in
set_option maxHeartbeats 4000000 in
theorem turns_walk (a : Option Addr) (n c0 : Nat) (q : Nat → Pr) (w : World) (hn : n ≤ 100) (hq : PrsAt w a n q) :
    Calls Try.prog 4 #[.slice a n c0] w fun e w' => e = .returned (.bool true) ∧ Below w.heap.size w w' := by
  have CA := Lib.hid (awake_true w)
  have HQ := Lib.hid hq
  have hnz : ¬ (n : Int) > 100 := by omega
  clear hq
  go_enter Try.func4, Try.ntmps4
  go_wp2_with fail
  refine CA.out.mono ?_
  rintro e w1 ⟨rfl, b1⟩
  have CN := Lib.hid (two_new b1)
  clear CA b1
  go_wp2_with fail
  refine CN.out.mono ?_
  rintro e w2 ⟨rfl, N2⟩
  have CN2 := Lib.hid N2
  clear CN N2
  generalize w1.heap.size = pa at *
  go_wp2_with fail
  refine CN2.out.mono ?_
  rintro e w3 ⟨rfl, t3⟩
  have T3 := Lib.hid t3
  clear CN2 t3
  generalize w2.heap.size = pb at *
  go_wp2_with fail
  go_loopg [5] n (fun kx s5 wr => ∃ i : Nat, s5 = .int .i64 i ∧ i ≤ n ∧ n - i ≤ kx ∧ Aside (TwoS w pa i (allIn (kq q) i) pb i (allIn (kq q) i) wr))
  case atStart => exact ⟨0, rfl, by omega, by omega, T3.out⟩
  case round =>
    clear T3
    obtain ⟨i, rfl, hi, hk, T⟩ := hrel
    by_cases hlt : i < n
    · have hltz : (i : Int) < (n : Int) := by omega
      obtain ⟨b0, o0, rfl, hb0, hq⟩ := HQ.out (by omega)
      obtain ⟨qa, qb⟩ := hq i hlt
      have ha := (q i).ha
      have hb := (q i).hb
      have BC : Hid (∀ W : World, Below w.heap.size w W → W.cell? ⟨b0, o0 + i * 2, none⟩ = some (.int .u8 (q i).a) ∧ W.cell? ⟨b0, o0 + i * 2 + 1, none⟩ = some (.int .u8 (q i).b)) := fun W bw => ⟨(bw.cell (p := ⟨b0, o0 + i * 2, none⟩) hb0).trans qa, (bw.cell (p := ⟨b0, o0 + i * 2 + 1, none⟩) hb0).trans qb⟩
      have kc := BC.out wr.drew (T.out.gr (Ke.refl _ _).drew).below
      have PA : Hid (∀ x y : Int, x = (q i).a → y = (q i).b → Calls Try.prog 9 #[.pointer (some ⟨pa, 0, none⟩), .int .i64 x, .int .i64 y] wr.drew fun e w' => e = .returned (.tuple #[]) ∧ TwoS w pa (i + 1) (allIn (kq q) (i + 1)) pb i (allIn (kq q) i) w') := fun x y hx hy => by
        subst hx hy
        exact two_put_a (T.out.gr (Ke.refl _ _).drew) (by omega) _ _ (wf64 (q i).hb)
      have PB : Hid (∀ W, TwoS w pa (i + 1) (allIn (kq q) (i + 1)) pb i (allIn (kq q) i) W → ∀ x y : Int, x = (q i).a → y = (q i).b → Calls Try.prog 9 #[.pointer (some ⟨pb, 0, none⟩), .int .i64 x, .int .i64 y] W fun e w' => e = .returned (.tuple #[]) ∧ TwoS w pa (i + 1) (allIn (kq q) (i + 1)) pb (i + 1) (allIn (kq q) (i + 1)) w') := fun W hW x y hx hy => by
        subst hx hy
        exact two_put_b hW (by omega) _ _ (wf64 (q i).hb)
      generalize (q i).a = xa at *
      generalize (q i).b = xb at *
      have wa : IntKind.i64.wrap xa = xa := by rw [IntKind.wrap_i64]; omega
      have wb : IntKind.i64.wrap xb = xb := by rw [IntKind.wrap_i64]; omega
      clear qa qb hq
      go_upto_region 11 with fail
      go_region_held3 (fun w' => w'.cell? ⟨b0, o0 + i * 2, none⟩ = some (.int .u8 xa) ∧ w'.cell? ⟨b0, o0 + i * 2 + 1, none⟩ = some (.int .u8 xb))
        (with_reducible first | exact kc | exact kd)
        (first | (go_at_call 9; refine (PA.out _ _ (by first | rfl | exact wa) (by first | rfl | exact wb)).mono ?_; rintro e w4 ⟨rfl, t4⟩; have kd := BC.out _ t4.below; have T4 := Lib.hid t4; clear t4))
      clear kc PA kd
      have kc := BC.out w4.drew (T4.out.gr (Ke.refl _ _).drew).below
      have PC := Lib.hid (PB.out w4.drew (T4.out.gr (Ke.refl _ _).drew))
      clear PB
      go_upto_region 12 with fail
      go_region_held3 (fun w' => w'.cell? ⟨b0, o0 + i * 2, none⟩ = some (.int .u8 xa) ∧ w'.cell? ⟨b0, o0 + i * 2 + 1, none⟩ = some (.int .u8 xb))
        (with_reducible first | exact kc | exact ke)
        (first | (go_at_call 9; refine (PC.out _ _ (by first | rfl | exact wa) (by first | rfl | exact wb)).mono ?_; rintro e w5 ⟨rfl, t5⟩; have ke := BC.out _ t5.below; have T5 := Lib.hid t5; clear t5))
      go_wp2_with fail
      go_roundg (n - (i + 1))
      case measure => omega
      case rel => exact ⟨i + 1, by go_num, by omega, Nat.le_refl _, T5.out⟩
    · have hltz : ¬ (i : Int) < (n : Int) := by omega
      obtain rfl : n = i := by omega
      obtain ⟨A, hA⟩ : ∃ A, A = allIn (kq q) n := ⟨_, rfl⟩
      have hAl : A.length = n := by rw [hA]; exact allIn_len _ _
      have hA5 : ∀ x, x ∈ A → x.1 ≤ 255 ∧ -1 < x.1 := fun x hx => by
        rw [hA] at hx
        obtain ⟨j, _, rfl⟩ := allIn_mem _ _ _ hx
        have := (q j).ha
        show (q j).a ≤ 255 ∧ -1 < (q j).a
        omega
      have TH : Hid (∀ (t : Int) (k : Nat), k < (due t (late (t - 1) A)).length → thr q t ((due t (late (t - 1) A)).getD k (0, 0)).2 n = true) := fun t k hk => by rw [hA] at hk ⊢; exact turn_there hk
      rw [← hA] at T
      have DN := due_none (t := -1) (L := A) (fun x hx => (hA5 x hx).2)
      have DA := Lib.hid (due_all (t := 255) (L := A) (fun x hx => (hA5 x hx).1))
      have I0 : Hid (DuT w w.heap.size pa n (late (0 - 1) A) pb n A (due (0 - 1) A) (.slice none 0 0) wr) := by
        obtain ⟨Fa, Fb, tt⟩ := T.out
        show DuT w w.heap.size pa n (late (0 - 1) A) pb n A (due (0 - 1) A) (.slice none 0 0) wr
        rw [show (0 : Int) - 1 = -1 from rfl, DN.1, DN.2]
        exact ⟨⟨Fa, Fb, tt, fun g hg => by simp [Value.ownBlock] at hg⟩, World.ownsRow_nil _ _ _ _⟩
      have LA : Hid (∀ t : Int, (due t A).length ≤ n ∧ (late t A).length ≤ n) := fun t => by
        rw [← hAl]
        exact ⟨(List.takeWhile_sublist _).length_le, (List.dropWhile_sublist _).length_le⟩
      clear hA hA5 DN T hk
      generalize wr = wz at *
      go_wp2_with fail
      go_loopg [6, 7, 8, 9, 10, 11] 256 (fun kx s6 s7 s8 s9 s10 s11 wr => ∃ t : Nat, s7 = .int .i64 t ∧ t ≤ 256 ∧ 256 - t ≤ kx ∧ Aside (DuT w w.heap.size pa n (late ((t : Int) - 1) A) pb n A (due ((t : Int) - 1) A) s6 wr))
      case atStart => exact ⟨0, rfl, by omega, by omega, I0.out⟩
      case round =>
        clear I0
        obtain ⟨t, rfl, ht, htk, DT⟩ := hrel
        by_cases hlt2 : t < 256
        · have hltz2 : (t : Int) < 256 := by omega
          have C := Lib.hid (turn_due DT.out (by have := (LA.out ((t : Int) - 1)).2; omega) t)
          have LB := LA.out (t : Int)
          obtain ⟨dm1, dm2⟩ := due_more (s := (t : Int) - 1) (t := (t : Int)) (by omega) A
          have DM1 := Lib.hid dm1
          have DM2 := Lib.hid dm2
          have hdl : (due ((t : Int) - 1) A).length + (due t (late ((t : Int) - 1) A)).length ≤ 1000000 := by
            have := congrArg List.length dm1
            rw [List.length_append] at this
            omega
          have TK := Lib.hid (TH.out t)
          rw [← dm2] at C
          clear DT dm1 dm2
          go_wp2_with fail
          refine C.out.mono ?_
          rintro e w4 ⟨v', rfl, V4⟩
          clear C
          obtain ⟨E, hE⟩ : ∃ E, due t (late ((t : Int) - 1) A) = E := ⟨_, rfl⟩
          rw [hE] at V4 hdl TK
          have HE := Lib.hid hE
          clear hE
          obtain ⟨m, hm⟩ : ∃ m, E.length = m := ⟨_, rfl⟩
          have r2 := V4.r2
          rw [hm] at r2 TK
          obtain ⟨a2, cap2, rfl, s2⟩ := r2.sl
          have R2 := Lib.hid r2
          have S2 := Lib.hid s2
          have VV := Lib.hid V4
          have hm6 : m ≤ 1000000 := by omega
          have BE4 := Lib.hid (show Below w.heap.size w w4 from by obtain ⟨_, _, tt, _⟩ := V4.ex; exact tt.a.below)
          clear V4 r2 s2
          go_wp2_with fail
          go_loopg [9, 10, 11] m (fun kx s9 s10 s11 wr => ∃ k : Nat, s9 = .int .i64 k ∧ k ≤ m ∧ m - k ≤ kx ∧ Aside (Gr w4 wr))
          case atStart => exact ⟨0, rfl, by omega, by omega, Ke.refl _ _⟩
          case round =>
            obtain ⟨k, rfl, hkm, hkk, G⟩ := hrel
            by_cases hlt3 : k < m
            · have hltz3 : (k : Int) < (m : Int) := by omega
              obtain ⟨g2, e2⟩ := S2.out (by omega)
              subst e2
              have xc := R2.out.cell k (by omega)
              have tk := TK.out k (by omega)
              unfold idc at xc
              obtain ⟨xv, hxv⟩ : ∃ xv, (E.getD k (0, 0)).2 = xv := ⟨_, rfl⟩
              rw [hxv] at xc tk
              have XC := Lib.hid xc
              have TKK := Lib.hid tk
              clear xc tk hxv
              go_wp2_with fail
              go_loopg [10, 11] n (fun kx s10 s11 wr => ∃ i : Nat, s11 = .int .i64 i ∧ s10 = .bool (thr q t xv i) ∧ i ≤ n ∧ n - i ≤ kx ∧ Aside (Gr w4 wr))
              case atStart => exact ⟨0, rfl, rfl, by omega, by omega, G.out⟩
              case round =>
                obtain ⟨i, rfl, rfl, hin, hik, G2⟩ := hrel
                by_cases hlt4 : i < n
                · have hltz4 : (i : Int) < (n : Int) := by omega
                  obtain ⟨b0, o0, rfl, hb0, hq⟩ := HQ.out (by omega)
                  obtain ⟨qa, qb⟩ := hq i hlt4
                  have bw := below_ke BE4.out G2.out (fun _ q => q.elim)
                  have k1 := gw_cell ((bw.cell (p := ⟨b0, o0 + i * 2, none⟩) hb0).trans qa)
                  have k2 := gw_cell ((bw.cell (p := ⟨b0, o0 + i * 2 + 1, none⟩) hb0).trans qb)
                  have k3 := gw_cell (gcell G2.out XC.out)
                  have ha := (q i).ha
                  have hb := (q i).hb
                  have eT : Hid (thr q t xv (i + 1) = (thr q t xv i || ((q i).a == (t : Int) && (q i).b == xv))) := rfl
                  generalize (q i).a = xa at *
                  generalize (q i).b = xb at *
                  generalize thr q t xv i = th at *
                  have wa : IntKind.i64.wrap xa = xa := by rw [IntKind.wrap_i64]; omega
                  have wb : IntKind.i64.wrap xb = xb := by rw [IntKind.wrap_i64]; omega
                  clear qa qb hq bw
                  have hne : Nonempty (GW wr) := ⟨⟨wr, Ke.refl _ _⟩⟩
                  have hself := @gw_self wr
                  have hself' : ∀ p : GW wr, ∃ q : GW wr, q.W = p.W := fun p => ⟨p, rfl⟩
                  cases th
                  · by_cases hat : xa = (t : Int)
                    · have hatd : (xa == (t : Int)) = true := by simp [hat]
                      have HAT := Lib.hid hat
                      clear hat
                      go_upto_region 25 with fail
                      refine wp_region_gw (by kernel_rfl) (by kernel_rfl) ?_
                      repeat (go_big_quiet_step (fail))
                      refine wpQuiet_nil ?_
                      intro _ hw'
                      obtain ⟨pp, hw''⟩ := hw'
                      subst hw''
                      clear k1 k2 k3 hne hself hself'
                      go_wp2_with fail
                      go_roundg (n - (i + 1))
                      case measure => omega
                      case rel => exact ⟨i + 1, by go_num, by rw [eT.out, hatd]; simp, by omega, Nat.le_refl _, G2.out.trans pp.gr⟩
                    · have hatd : (xa == (t : Int)) = false := by simp [hat]
                      have HAT := Lib.hid hat
                      clear hat
                      go_upto_region 25 with fail
                      refine wp_region_gw (by kernel_rfl) (by kernel_rfl) ?_
                      repeat (go_big_quiet_step (fail))
                      refine wpQuiet_nil ?_
                      intro _ hw'
                      obtain ⟨pp, hw''⟩ := hw'
                      subst hw''
                      clear k1 k2 k3 hne hself hself'
                      go_wp2_with fail
                      go_roundg (n - (i + 1))
                      case measure => omega
                      case rel => exact ⟨i + 1, by go_num, by rw [eT.out, hatd]; rfl, by omega, Nat.le_refl _, G2.out.trans pp.gr⟩
                  · go_upto_region 25 with fail
                    refine wp_region_gw (by kernel_rfl) (by kernel_rfl) ?_
                    repeat (go_big_quiet_step (fail))
                    refine wpQuiet_nil ?_
                    intro _ hw'
                    obtain ⟨pp, hw''⟩ := hw'
                    subst hw''
                    clear k1 k2 k3 hne hself hself'
                    go_wp2_with fail
                    go_roundg (n - (i + 1))
                    case measure => omega
                    case rel => exact ⟨i + 1, by go_num, by rw [eT.out]; rfl, by omega, Nat.le_refl _, G2.out.trans pp.gr⟩
                · have hltz4 : ¬ (i : Int) < (n : Int) := by omega
                  obtain rfl : n = i := by omega
                  rw [TKK.out]
                  go_wp2_with fail
                  go_roundg (m - (k + 1))
                  case measure => omega
                  case rel => exact ⟨k + 1, by go_num, by omega, Nat.le_refl _, G2.out⟩
            · have hltz3 : ¬ (k : Int) < (m : Int) := by omega
              obtain ⟨v'', w5, hr, dn⟩ := turn_app (VV.out.gr G.out) hdl
              have HR := Lib.hid hr
              rw [← HE.out, ← DM1.out] at dn
              have DN := Lib.hid dn
              clear hr dn
              go_wp2_with (at_builtin; refine Lib.wpList_append_run _ rfl _ _ 29 29 rfl _ _ rfl rfl _ _ HR.out ?_)
              go_roundg (256 - (t + 1))
              case measure => omega
              case rel =>
                refine ⟨t + 1, by go_num, by omega, Nat.le_refl _, ?_⟩
                have e : ((t + 1 : Nat) : Int) - 1 = (t : Int) := by omega
                rw [e]
                exact DN.out
        · have hltz2 : ¬ (t : Int) < 256 := by omega
          have dt := DT.out
          rw [show (t : Int) - 1 = 255 by omega, DA.out.1, DA.out.2] at dt
          have C := Lib.hid (two_due_b dt (by omega) 255)
          clear DT dt TH LA HQ
          go_wp2_with fail
          refine C.out.mono ?_
          rintro e w4 ⟨v', rfl, t4, r4⟩
          rw [DA.out.1] at r4
          rw [DA.out.2] at t4
          have r4' := t4.row
          rw [hAl] at r4 r4'
          obtain ⟨a1, cap1, rfl, s1⟩ := r4'.sl
          obtain ⟨a2, cap2, rfl, s2⟩ := r4.sl
          obtain ⟨Fa, Fb, t4', _⟩ := t4.ex
          have L1 := two_len_a ⟨Fa, Fb, t4'⟩
          have L2 := two_len_b ⟨Fa, Fb, t4'⟩
          rw [show (([] : List Ky).length : Nat) = 0 from rfl] at L1 L2
          have C3 := Lib.hid L1
          have C4 := Lib.hid L2
          have BE := Lib.hid t4'.a.below
          have R1 := Lib.hid r4'
          have R2 := Lib.hid r4
          have S1 := Lib.hid s1
          have S2 := Lib.hid s2
          clear C t4 t4' r4 r4' s1 s2 DA L1 L2
          go_wp2_with fail
          refine C3.out.mono ?_
          rintro e w6 ⟨rfl, hw⟩
          obtain rfl := hw.symm
          clear hw C3
          go_wp2_with fail
          refine C4.out.mono ?_
          rintro e w6 ⟨rfl, hw⟩
          obtain rfl := hw.symm
          clear hw C4
          go_wp2_with fail
          go_loopg [13] n (fun kx s13 wr => ∃ j : Nat, s13 = .int .i64 j ∧ j ≤ n ∧ n - j ≤ kx ∧ Aside (Gr w4 wr))
          case atStart => exact ⟨0, rfl, by omega, by omega, Ke.refl _ _⟩
          case round =>
            obtain ⟨j, rfl, hj, hjk, G⟩ := hrel
            by_cases hlt3 : j < n
            · have hltz3 : (j : Int) < (n : Int) := by omega
              obtain ⟨g1, e1⟩ := S1.out (by omega)
              obtain ⟨g2, e2⟩ := S2.out (by omega)
              subst e1 e2
              have x1 := gcell G.out (R1.out.cell j (by omega))
              have x2 := gcell G.out (R2.out.cell j (by omega))
              unfold idc at x1 x2
              generalize (A.getD j (0, 0)).2 = xv at *
              go_wp2_with fail
              go_region
              all_goals
                go_wp2_with fail
                go_roundg (n - (j + 1))
                case measure => omega
                case rel => exact ⟨j + 1, by go_num, by omega, Nat.le_refl _, G.out.drew⟩
            · have hltz3 : ¬ (j : Int) < (n : Int) := by omega
              go_wp2
              go_ret
              exact ⟨rfl, below_ke BE.out G.out (fun _ q => q.elim)⟩
end Go.Proofs.Ytkpflhlalpkgnaa
