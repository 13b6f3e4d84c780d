/- The law PickEarly walked. -/
import Derived.Test.YtkapejgokcpbiaaU4
import Derived.Test.YtkapejgokcpbiaaX1
namespace Go.Proofs.Ytkapejgokcpbiaa
open Go.RowKit Go.Lib
set_option linter.unusedVariables false
set_option maxRecDepth 100000
set_option maxHeartbeats 2000000

theorem can_fine (x : Tk) (c : Int) : canB x c true = (x.ac && decide (x.g ≥ 0) && decide (x.g < x.e) && decide (x.r ≤ c) && decide (x.e ≤ x.p) && decide (x.p ≤ 1048575)) := by
  unfold canB quB
  rw [Bool.eq_iff_iff]
  simp only [Bool.and_eq_true, Bool.or_eq_true, decide_eq_true_eq, true_or]
  constructor
  · rintro ⟨⟨⟨a, ⟨⟨⟨b, d⟩, e⟩, f⟩, g⟩, h⟩, -⟩
    exact ⟨⟨⟨⟨⟨a, by omega⟩, by omega⟩, h⟩, d⟩, e⟩
  · rintro ⟨⟨⟨⟨⟨a, b⟩, d⟩, e⟩, f⟩, g⟩
    exact ⟨⟨⟨a, ⟨⟨⟨by omega, f⟩, g⟩, by omega⟩, by omega⟩, e⟩, trivial⟩
theorem can_mono (x : Tk) (c : Int) (h : canB x c false = true) : canB x c true = true := by
  unfold canB at *
  simp only [Bool.and_eq_true] at *
  exact ⟨h.1, by simp⟩
theorem six {f0 f1 f2 f3 f4 f5 : Bool} : f0 = false ∨ (f0 = true ∧ f1 = false) ∨ (f0 = true ∧ f1 = true ∧ f2 = false) ∨ (f0 = true ∧ f1 = true ∧ f2 = true ∧ f3 = false) ∨ (f0 = true ∧ f1 = true ∧ f2 = true ∧ f3 = true ∧ f4 = false) ∨ (f0 = true ∧ f1 = true ∧ f2 = true ∧ f3 = true ∧ f4 = true ∧ f5 = false) ∨ (f0 = true ∧ f1 = true ∧ f2 = true ∧ f3 = true ∧ f4 = true ∧ f5 = true) := by
  cases f0 <;> cases f1 <;> cases f2 <;> cases f3 <;> cases f4 <;> cases f5 <;> simp

theorem early_walk {w : World} {v : Value} {N : Nat} {l : Nat → Tk} (h : TsIn w v N l) (ok : ∀ i, TiOk (l i)) (m : Nat) (hm : m < 256) : Calls Try.prog 6 #[v, .int .u8 m] w fun e w' => e = .returned (.bool true) ∧ Gr w w' := by
  have AW := Lib.hid (awake_true w)
  have H := Lib.hid h
  have OK := Lib.hid ok
  obtain ⟨a, ca, rfl⟩ := h.form
  clear h ok
  go_enter Try.func6, Try.ntmps6
  go_wp2_with fail
  refine AW.out.mono ?_
  rintro e w0 ⟨rfl, g0⟩
  have G0 := Lib.hid g0
  clear g0 AW
  by_cases h60 : (N : Int) > 60
  · go_wp2
    go_ret
    exact ⟨rfl, G0.out⟩
  have hm0 : (0 : Int) ≤ m := by omega
  have hm1 : (m : Int) ≤ 255 := by omega
  have hN60 : N ≤ 60 := by omega
  go_wp2_with fail
  go_loopg [6] N (fun kx s6 wr => ∃ i : Nat, s6 = .int .i64 i ∧ i ≤ N ∧ N - i ≤ kx ∧ Aside (Gr w wr))
  case atStart => exact ⟨0, rfl, by omega, by omega, G0.out⟩
  case round =>
    obtain ⟨i, rfl, hi, hix, G⟩ := hrel
    by_cases hil : i < N
    · have hilz : (i : Int) < (N : Int) := by omega
      obtain ⟨b, off, ca', hv, at_⟩ := (H.out.gr G.out).at_ (by omega)
      cases hv
      obtain ⟨q0, q1, q2, q3, q4, q5, q6, q7, q8, q9, q10⟩ := at_ i hil
      have OKI := OK.out i
      obtain ⟨t, ht⟩ : ∃ t, t = l i := ⟨_, rfl⟩
      rw [← ht] at q0 q1 q2 q3 q4 q5 q6 q7 q8 q9 q10 OKI
      have hg := OKI.g
      have hF := can_fine t m
      have hM := can_mono t m
      have CA : Hid (∀ ea W, SmT t → Calls Try.prog 10 #[VT t, .int .i64 m, .bool ea] W fun e w' => e = .returned (.bool (canB t m ea)) ∧ Gr W w') := fun ea W s => can_any t m ea W s ⟨by omega, by omega⟩
      have MD := Lib.hid (fun W => made12 t W)
      clear at_ ht OKI
      by_cases x0 : t.r < -1099511627776
      · have d0 : decide (t.r < -1099511627776) = true := by simp [x0]
        obtain ⟨tid, te, tp, tsp, tle, twa, tac, tr, tg, tdn, tct⟩ := t
        simp only at *
        clear hF hM CA MD x0
        go_wp2
        go_ret
        exact ⟨rfl, G.out⟩
      have d0 : decide (t.r < -1099511627776) = false := by simp; omega
      by_cases x1 : t.r > 1099511627776
      · have d1 : decide (t.r > 1099511627776) = true := by simp; omega
        obtain ⟨tid, te, tp, tsp, tle, twa, tac, tr, tg, tdn, tct⟩ := t
        simp only at *
        clear hF hM CA MD x0 x1
        go_wp2
        go_ret
        exact ⟨rfl, G.out⟩
      have d1 : decide (t.r > 1099511627776) = false := by simp; omega
      by_cases x2 : t.g > 1099511627776
      · have d2 : decide (t.g > 1099511627776) = true := by simp; omega
        obtain ⟨tid, te, tp, tsp, tle, twa, tac, tr, tg, tdn, tct⟩ := t
        simp only at *
        clear hF hM CA MD x0 x1 x2
        go_wp2
        go_ret
        exact ⟨rfl, G.out⟩
      have d2 : decide (t.g > 1099511627776) = false := by simp; omega
      have sm : SmT t := ⟨⟨by omega, by omega⟩, by omega, by omega⟩
      have C1 := Lib.hid (fun W => CA.out false W sm)
      have C2 := Lib.hid (fun W => CA.out true W sm)
      rw [hF] at C2 hM
      obtain ⟨b1, hb1⟩ : ∃ b1, canB t m false = b1 := ⟨_, rfl⟩
      rw [hb1] at C1 hM
      clear hF CA sm x0 x1 x2 hb1
      obtain ⟨tid, te, tp, tsp, tle, twa, tac, tr, tg, tdn, tct⟩ := t
      simp only at *
      obtain ⟨f1, hf1⟩ : ∃ f1, decide (tg ≥ 0) = f1 := ⟨_, rfl⟩
      obtain ⟨f2, hf2⟩ : ∃ f2, decide (tg < te) = f2 := ⟨_, rfl⟩
      obtain ⟨f3, hf3⟩ : ∃ f3, decide (tr ≤ (m : Int)) = f3 := ⟨_, rfl⟩
      obtain ⟨f4, hf4⟩ : ∃ f4, decide (te ≤ tp) = f4 := ⟨_, rfl⟩
      obtain ⟨f5, hf5⟩ : ∃ f5, decide (tp ≤ 1048575) = f5 := ⟨_, rfl⟩
      rw [hf1, hf2, hf3, hf4, hf5] at C2 hM
      cases b1
      · have hM2 := hM
        clear hM
        rcases (six : tac = false ∨ (tac = true ∧ f1 = false) ∨ (tac = true ∧ f1 = true ∧ f2 = false) ∨ (tac = true ∧ f1 = true ∧ f2 = true ∧ f3 = false) ∨ (tac = true ∧ f1 = true ∧ f2 = true ∧ f3 = true ∧ f4 = false) ∨ (tac = true ∧ f1 = true ∧ f2 = true ∧ f3 = true ∧ f4 = true ∧ f5 = false) ∨ (tac = true ∧ f1 = true ∧ f2 = true ∧ f3 = true ∧ f4 = true ∧ f5 = true)) with rfl | ⟨rfl, rfl⟩ | ⟨rfl, rfl, rfl⟩ | ⟨rfl, rfl, rfl, rfl⟩ | ⟨rfl, rfl, rfl, rfl, rfl⟩ | ⟨rfl, rfl, rfl, rfl, rfl, rfl⟩ | ⟨rfl, rfl, rfl, rfl, rfl, rfl⟩
        all_goals
          simp only [Bool.false_and, Bool.and_true, Bool.and_false] at C2
          clear hM2
          go_wp2_with fail
          refine (MD.out _).mono ?_
          rintro e w1 ⟨rfl, g1⟩
          go_wp2_with fail
          refine (C1.out _).mono ?_
          rintro e w2 ⟨rfl, g2⟩
          have b0 := gcell (a := ⟨w1.heap.size, 0, none⟩) g2 (by simp [go_sem]; rfl)
          have b1 := gcell (a := ⟨w1.heap.size, 1, none⟩) g2 (by simp [go_sem]; rfl)
          have b2 := gcell (a := ⟨w1.heap.size, 2, none⟩) g2 (by simp [go_sem]; rfl)
          have b3 := gcell (a := ⟨w1.heap.size, 3, none⟩) g2 (by simp [go_sem]; rfl)
          have b4 := gcell (a := ⟨w1.heap.size, 4, none⟩) g2 (by simp [go_sem]; rfl)
          have b5 := gcell (a := ⟨w1.heap.size, 5, none⟩) g2 (by simp [go_sem]; rfl)
          have b6 := gcell (a := ⟨w1.heap.size, 6, none⟩) g2 (by simp [go_sem]; rfl)
          have b7 := gcell (a := ⟨w1.heap.size, 7, none⟩) g2 (by simp [go_sem]; rfl)
          have b8 := gcell (a := ⟨w1.heap.size, 8, none⟩) g2 (by simp [go_sem]; rfl)
          have b9 := gcell (a := ⟨w1.heap.size, 9, none⟩) g2 (by simp [go_sem]; rfl)
          have b10 := gcell (a := ⟨w1.heap.size, 10, none⟩) g2 (by simp [go_sem]; rfl)
          have k12 := (g1.alloc _).trans g2
          have k6 := gw_cell (gcell k12 q6)
          have k8 := gw_cell (gcell k12 q8)
          have k1 := gw_cell (gcell k12 q1)
          have k7 := gw_cell (gcell k12 q7)
          have k2 := gw_cell (gcell k12 q2)
          have G2 := Lib.hid (G.out.trans k12)
          have BX := Lib.hid (TkAt.of (w := w2) (b := w1.heap.size) (off := 0) (x := ⟨tid, te, tp, tsp, tle, twa, _, tr, tg, tdn, tct⟩) (fun o ho => by
            rcases (show o = 0 ∨ o = 1 ∨ o = 2 ∨ o = 3 ∨ o = 4 ∨ o = 5 ∨ o = 6 ∨ o = 7 ∨ o = 8 ∨ o = 9 ∨ o = 10 by omega) with rfl | rfl | rfl | rfl | rfl | rfl | rfl | rfl | rfl | rfl | rfl
            all_goals (rw [Nat.zero_add]; assumption)))
          clear q0 q1 q2 q3 q4 q5 q6 q7 q8 q9 q10 b0 b1 b2 b3 b4 b5 b6 b7 b8 b9 b10 g1 g2 C1 MD d0 d1 d2
          go_upto_region 14 with fail
          have hne : Nonempty (GW w2) := ⟨⟨w2, Ke.refl _ _⟩⟩
          have hself := @gw_self w2
          have hself' : ∀ p : GW w2, ∃ q : GW w2, q.W = p.W := fun p => ⟨p, rfl⟩
          refine wp_region_gw (by first | assumption | kernel_rfl) (by kernel_rfl) ?_
          repeat (go_big_quiet_step (fail))
          refine wpQuiet_nil ?_
          intro _ hw'
          obtain ⟨pp, hw''⟩ := hw'
          subst hw''
          have G3 := Lib.hid (G2.out.trans pp.gr)
          have B3 := BX.out.gr pp.gr
          clear k1 k2 k6 k7 k8 hne hself hself' BX G2
          generalize pp.W = w7 at *
          clear pp
          obtain ⟨b0, b1, b2, b3, b4, b5, b6, b7, b8, b9, b10⟩ := B3
          simp only [Nat.zero_add] at b0 b1 b2 b3 b4 b5 b6 b7 b8 b9 b10
          go_wp2_with fail
          refine (C2.out _).mono ?_
          rintro e w8 ⟨rfl, g8⟩
          have G8 := Lib.hid (G3.out.trans g8)
          clear b0 b1 b2 b3 b4 b5 b6 b7 b8 b9 b10 g8 C2 G3
          go_wp2_with fail
          go_roundg (N - (i + 1))
          case measure => omega
          case rel => exact ⟨i + 1, by go_num, by omega, Nat.le_refl _, G8.out⟩
      · have hall := hM rfl
        simp only [Bool.and_eq_true] at hall
        obtain ⟨⟨⟨⟨⟨rfl, rfl⟩, rfl⟩, rfl⟩, rfl⟩, rfl⟩ := hall
        simp only [Bool.and_true] at C2
        clear hM
        go_wp2_with fail
        refine (MD.out _).mono ?_
        rintro e w1 ⟨rfl, g1⟩
        go_wp2_with fail
        refine (C1.out _).mono ?_
        rintro e w2 ⟨rfl, g2⟩
        have b0 := gcell (a := ⟨w1.heap.size, 0, none⟩) g2 (by simp [go_sem]; rfl)
        have b1 := gcell (a := ⟨w1.heap.size, 1, none⟩) g2 (by simp [go_sem]; rfl)
        have b2 := gcell (a := ⟨w1.heap.size, 2, none⟩) g2 (by simp [go_sem]; rfl)
        have b3 := gcell (a := ⟨w1.heap.size, 3, none⟩) g2 (by simp [go_sem]; rfl)
        have b4 := gcell (a := ⟨w1.heap.size, 4, none⟩) g2 (by simp [go_sem]; rfl)
        have b5 := gcell (a := ⟨w1.heap.size, 5, none⟩) g2 (by simp [go_sem]; rfl)
        have b6 := gcell (a := ⟨w1.heap.size, 6, none⟩) g2 (by simp [go_sem]; rfl)
        have b7 := gcell (a := ⟨w1.heap.size, 7, none⟩) g2 (by simp [go_sem]; rfl)
        have b8 := gcell (a := ⟨w1.heap.size, 8, none⟩) g2 (by simp [go_sem]; rfl)
        have b9 := gcell (a := ⟨w1.heap.size, 9, none⟩) g2 (by simp [go_sem]; rfl)
        have b10 := gcell (a := ⟨w1.heap.size, 10, none⟩) g2 (by simp [go_sem]; rfl)
        go_wp2_with fail
        refine (C2.out _).mono ?_
        rintro e w3 ⟨rfl, g3⟩
        replace b0 := gcell g3 b0
        replace b1 := gcell g3 b1
        replace b2 := gcell g3 b2
        replace b3 := gcell g3 b3
        replace b4 := gcell g3 b4
        replace b5 := gcell g3 b5
        replace b6 := gcell g3 b6
        replace b7 := gcell g3 b7
        replace b8 := gcell g3 b8
        replace b9 := gcell g3 b9
        replace b10 := gcell g3 b10
        have k12 := ((g1.alloc _).trans g2).trans g3
        have k6 := gw_cell (gcell k12 q6)
        have k8 := gw_cell (gcell k12 q8)
        have k1 := gw_cell (gcell k12 q1)
        have k7 := gw_cell (gcell k12 q7)
        have k2 := gw_cell (gcell k12 q2)
        have G2 := Lib.hid (G.out.trans k12)
        have BX := Lib.hid (TkAt.of (w := w3) (b := w1.heap.size) (off := 0) (x := ⟨tid, te, tp, tsp, tle, twa, true, tr, tg, tdn, tct⟩) (fun o ho => by
          rcases (show o = 0 ∨ o = 1 ∨ o = 2 ∨ o = 3 ∨ o = 4 ∨ o = 5 ∨ o = 6 ∨ o = 7 ∨ o = 8 ∨ o = 9 ∨ o = 10 by omega) with rfl | rfl | rfl | rfl | rfl | rfl | rfl | rfl | rfl | rfl | rfl
          all_goals (rw [Nat.zero_add]; assumption)))
        clear q0 q1 q2 q3 q4 q5 q6 q7 q8 q9 q10 b0 b1 b2 b3 b4 b5 b6 b7 b8 b9 b10 g1 g2 g3 C1 MD d0 d1 d2
        go_upto_region 14 with fail
        have hne : Nonempty (GW w3) := ⟨⟨w3, Ke.refl _ _⟩⟩
        have hself := @gw_self w3
        have hself' : ∀ p : GW w3, ∃ q : GW w3, q.W = p.W := fun p => ⟨p, rfl⟩
        refine wp_region_gw (by first | assumption | kernel_rfl) (by kernel_rfl) ?_
        repeat (go_big_quiet_step (fail))
        refine wpQuiet_nil ?_
        intro _ hw'
        obtain ⟨pp, hw''⟩ := hw'
        subst hw''
        have G3 := Lib.hid (G2.out.trans pp.gr)
        have B3 := BX.out.gr pp.gr
        clear k1 k2 k6 k7 k8 hne hself hself' BX G2
        generalize pp.W = w7 at *
        clear pp
        obtain ⟨b0, b1, b2, b3, b4, b5, b6, b7, b8, b9, b10⟩ := B3
        simp only [Nat.zero_add] at b0 b1 b2 b3 b4 b5 b6 b7 b8 b9 b10
        go_wp2_with fail
        refine (C2.out _).mono ?_
        rintro e w8 ⟨rfl, g8⟩
        have G8 := Lib.hid (G3.out.trans g8)
        clear b0 b1 b2 b3 b4 b5 b6 b7 b8 b9 b10 g8 C2 G3
        go_wp2_with fail
        go_roundg (N - (i + 1))
        case measure => omega
        case rel => exact ⟨i + 1, by go_num, by omega, Nat.le_refl _, G8.out⟩
    · have hilz : ¬ (i : Int) < (N : Int) := by omega
      go_wp2
      go_ret
      exact ⟨rfl, G.out⟩
end Go.Proofs.Ytkapejgokcpbiaa
