/- The law PickAlone walked. -/
import Derived.Test.YtkapejgokcpbiaaU4
import Derived.Test.YtkapejgokcpbiaaX1
namespace Go.Proofs.Ytkapejgokcpbiaa
open Go.RowKit Go.Lib
set_option linter.unusedVariables false
set_option maxRecDepth 100000
set_option maxHeartbeats 2000000

/-! ### plain -/
theorem rel_next {e p i : Int} (h : Task e p) : rel e p i + 1 ≤ rel e p (i + 1) := by
  have h1 := h.e1; have h2 := h.ep
  unfold rel
  have e1 : (i - 1) * p / e + 1 = ((i - 1) * p + e) / e := by
    have := Int.add_mul_ediv_right ((i - 1) * p) 1 (show e ≠ 0 by omega)
    rw [Int.one_mul] at this
    exact this.symm
  rw [e1]
  refine Int.ediv_le_ediv (by omega) ?_
  rw [show i + 1 - 1 = (i - 1) + 1 by omega, Int.add_mul]
  omega
/-- The task at work, that has g quanta. -/
abbrev aT (e p g : Int) : Tk := ⟨3, e, p, false, false, false, true, 7, g, false, 0⟩
theorem alone_best (x : Tk) (c : Int) (ea : Bool) : bestI (nth [x]) 1 c 1 ea = if canB x c ea then [x.id] else [] := by
  have h0 : cndB (nth [x]) c ea 0 = canB x c ea := by
    have : twB (nth [x]) 0 = false := rfl
    unfold cndB; rw [this]; simp
  unfold bestI
  simp only [bst, fstI, h0]
  cases canB x c ea <;> simp
theorem alone_can {e p g c : Int} (h : Task e p) (hg : 0 ≤ g) (hc : 7 ≤ c) (ea : Bool) : canB (aT e p g) c ea = (decide (g < e) && (ea || decide (rel e p (g + 1) ≤ c - 7))) := by
  have hq : quB e p (g + 1) = decide (g < e) := by
    rw [Bool.eq_iff_iff, quB_iff, decide_eq_true_eq]
    exact ⟨fun q => by have := q.ie; omega, fun q => ⟨h, by omega, by omega⟩⟩
  unfold canB
  simp only
  rw [hq]
  have : decide (7 ≤ c) = true := by simp [hc]
  rw [this]
  simp
/-- The task's box, and all that was there is as it was. -/
structure Al (w W : World) (B : Nat) (x : Tk) : Prop where
  gr : Gr w W
  at_ : TkAt W B 0 x
  fz : ∀ o, W.frozen? ⟨B, o, none⟩ = false
  wb : w.heap.size ≤ B
theorem Al.gr' {w W W' : World} {B : Nat} {x : Tk} (h : Al w W B x) (g : Gr W W') : Al w W' B x :=
  ⟨h.gr.trans g, h.at_.gr g, fun o => (g.frozen (p := ⟨B, o, none⟩) (by have := lt_of_cell h.at_.c0; simpa using this) (fun q => q)).trans (h.fz o), h.wb⟩
theorem Al.got {w W : World} {B : Nat} {e p g : Int} (h : Al w W B (aT e p g)) (g' : Int) : Al w (W.setCell ⟨B, 8, none⟩ (.int .i64 g')) B (aT e p g') := by
  have so : ∀ o v, o ≠ 8 → W.cell? ⟨B, o, none⟩ = some v → (W.setCell ⟨B, 8, none⟩ (.int .i64 g')).cell? ⟨B, o, none⟩ = some v := fun o v ho hv => (World.cell?_setCell_other W _ _ _ (fun q => ho (by cases q; rfl))).trans hv
  have a := h.at_
  refine ⟨h.gr.set (.inr h.wb) _, ⟨so _ _ (by omega) a.c0, so _ _ (by omega) a.c1, so _ _ (by omega) a.c2, so _ _ (by omega) a.c3, so _ _ (by omega) a.c4, so _ _ (by omega) a.c5, so _ _ (by omega) a.c6, so _ _ (by omega) a.c7, ?_, so _ _ (by omega) a.c9, so _ _ (by omega) a.c10⟩, fun o => by simpa using h.fz o, h.wb⟩
  exact World.cell?_setCell_same W _ _ a.c8
/-- What the rounds keep. -/
def AlI (E P g c : Nat) (ea : Bool) : Prop := g ≤ E ∧ (ea = true → g = min E (c - 7)) ∧ (ea = false → g < E → (c : Int) - 7 ≤ rel E P (g + 1))

theorem alone_walk (e p : Int) (ea : Bool) (w : World) : Calls Try.prog 7 #[.int .i64 e, .int .i64 p, .bool ea] w fun x w' => x = .returned (.bool true) ∧ Gr w w' := by
  have AW := Lib.hid (awake_true w)
  go_enter Try.func7, Try.ntmps7
  go_wp2_with fail
  refine AW.out.mono ?_
  rintro x w0 ⟨rfl, g0⟩
  have G0 := Lib.hid g0
  clear g0 AW
  by_cases ht : Task e p
  · have TM := Lib.hid (taskMay_yes e p w0 ht)
    by_cases hp : p > 300
    · have d0 : decide (p > 300) = true := by simp; omega
      clear ht
      go_wp2_with fail
      refine TM.out.mono ?_
      rintro x w1 ⟨rfl, rfl⟩
      go_wp2
      go_ret
      exact ⟨rfl, G0.out⟩
    have d0 : decide (p > 300) = false := by simp; omega
    have h1 := ht.e1; have h2 := ht.ep
    obtain ⟨E, rfl⟩ : ∃ E : Nat, e = E := ⟨e.toNat, by omega⟩
    obtain ⟨P, rfl⟩ : ∃ P : Nat, p = P := ⟨p.toNat, by omega⟩
    have HT := Lib.hid ht
    clear ht
    go_wp2_with fail
    refine TM.out.mono ?_
    rintro x w1 ⟨rfl, rfl⟩
    have A0 : Hid (Al w (w0.alloc (.cells #[.int .i64 3, .int .i64 E, .int .i64 P, .bool false, .bool false, .bool false, .bool true, .int .i64 7, .int .i64 0, .bool false, .int .i64 0] 26)) w0.heap.size (aT E P 0)) := ⟨G0.out.alloc _, ⟨by simp [go_sem], by simp [go_sem], by simp [go_sem], by simp [go_sem], by simp [go_sem], by simp [go_sem], by simp [go_sem], by simp [go_sem], by simp [go_sem], by simp [go_sem], by simp [go_sem]⟩, fun o => by simp, G0.out.size⟩
    clear TM d0
    go_wp2_with fail
    generalize (w0.alloc (.cells #[.int .i64 3, .int .i64 E, .int .i64 P, .bool false, .bool false, .bool false, .bool true, .int .i64 7, .int .i64 0, .bool false, .int .i64 0] 26)) = W0 at *
    generalize w0.heap.size = B at *
    clear G0
    have hP : P ≤ 300 := by omega
    go_loopg [8] P (fun kx s8 wr => ∃ c g : Nat, s8 = .int .i64 c ∧ 7 ≤ c ∧ c ≤ 7 + P ∧ 7 + P - c ≤ kx ∧ Aside (Al w wr B (aT E P g) ∧ AlI E P g c ea))
    case atStart => exact ⟨7, 0, rfl, by omega, by omega, by omega, A0.out, by omega, fun _ => by omega, fun _ _ => by have := (rel_bd (⟨HT.out, by omega, by omega⟩ : Quan E P (0 + 1))).1; simpa using this⟩
    case round =>
      obtain ⟨c, g, rfl, hc7, hcP, hcx, HI⟩ := hrel
      clear A0
      by_cases hlt : c < 7 + P
      · have hltz : (c : Int) < 7 + (P : Int) := by omega
        obtain ⟨al, hgE, hea, hne⟩ := HI.out
        obtain ⟨q0, q1, q2, q3, q4, q5, q6, q7, q8, q9, q10⟩ := al.at_
        simp only [Nat.zero_add] at q0 q1 q2 q3 q4 q5 q6 q7 q8 q9 q10
        have AL := Lib.hid al
        have HEA := Lib.hid hea
        have HNE := Lib.hid hne
        clear al HI hea hne
        go_wp2_with fail
        have A1 := Lib.hid (AL.out.gr' ((Ke.refl _ _).alloc (.cells #[.int .i64 3, .int .i64 E, .int .i64 P, .bool false, .bool false, .bool false, .bool true, .int .i64 7, .int .i64 g, .bool false, .int .i64 0] 26)))
        refine (rows_any (ts_lit wr [aT E P g] _ rfl 1 rfl) (by omega)).mono ?_
        rintro x w2 ⟨u, rfl, row, g2⟩
        have A2 := Lib.hid (A1.out.gr' g2)
        have C := Lib.hid (best_any row (by omega) (fun i hi => by obtain rfl : i = 0 := (by omega); exact ⟨⟨by show (-9223372036854775808 : Int) ≤ (g : Int); omega, by show (g : Int) < 9223372036854775807; omega⟩, by show (-2000000000000 : Int) ≤ 7; omega, by show (7 : Int) ≤ 2000000000000; omega⟩) (fun i hi => by obtain rfl : i = 0 := (by omega); show (Lit.int .i64 3).wf = true; decide) c ⟨by omega, by omega⟩ 1 ea)
        have hb := alone_best (aT E P g) c ea
        rw [alone_can HT.out (by omega) (by omega) ea] at hb
        rw [show (1 : Int).toNat = 1 from rfl, hb] at C
        clear hb row g2 A1 AL q0 q1 q2 q3 q4 q5 q6 q7 q8 q9 q10
        go_wp2_with fail
        refine C.out.mono ?_
        intro x w3 hq
        by_cases hg2 : g < E
        · have dg : decide ((g : Int) < (E : Int)) = true := by simp; omega
          rw [dg] at hq
          cases ea
          · obtain ⟨r, hr⟩ : ∃ r, rel E P (g + 1) = r := ⟨_, rfl⟩
            have hnx := rel_next (i := (g : Int) + 1) HT.out
            have hn2 := HNE.out rfl hg2
            have WN : Hid (∀ W, Calls Try.prog 19 #[.int .i64 E, .int .i64 P, .int .i64 ((g : Int) + 1)] W fun x w' => (∃ a b c, x = .returned (.tuple #[.int .i64 r, .int .i64 a, .int .i64 b, .int .i64 c])) ∧ Gr W w') := fun W => by
              rw [← hr]; exact win_any E P (g + 1) W ⟨HT.out, by omega, by omega⟩
            rw [hr] at hq hnx hn2
            by_cases hrc : r ≤ (c : Int) - 7
            · have dr : decide (r ≤ (c : Int) - 7) = true := by simp; omega
              rw [dr] at hq
              simp only [Bool.false_or, Bool.true_and, if_true] at hq
              have IV : Hid (AlI E P (g + 1) (c + 1) false) := ⟨by omega, fun q => (by cases q), fun _ _ => by rw [show ((g + 1 : Nat) : Int) + 1 = (g : Int) + 1 + 1 by omega]; omega⟩
              clear HNE hnx hn2 hr hrc HEA
              obtain ⟨gb, cb, rfl, b0, g3⟩ := hq.one rfl
              have A3 := Lib.hid (A2.out.gr' g3)
              have q8 := A3.out.at_.c8
              have z8 := A3.out.fz 8
              simp only [Nat.zero_add] at q8
              clear hq g3 A2 C
              go_wp2_with fail
              refine (WN.out _).mono ?_
              rintro y w4 ⟨⟨a1, a2, a3, rfl⟩, g4⟩
              replace b0 := gcell g4 b0
              have A4 := Lib.hid (A3.out.gr' g4)
              replace q8 := A4.out.at_.c8
              replace z8 := A4.out.fz 8
              simp only [Nat.zero_add] at q8
              clear g4 A3 WN
              have AF := Lib.hid (A4.out.got ((g + 1 : Nat) : Int))
              have eg : ((g + 1 : Nat) : Int) = (g : Int) + 1 := by omega
              rw [eg] at AF
              clear A4 eg
              go_wp2_with fail
              all_goals
                go_roundg (7 + P - (c + 1))
                case measure => omega
                case rel => exact ⟨c + 1, g + 1, by go_num, by omega, by omega, Nat.le_refl _, AF.out, IV.out⟩
            · have dr : decide (r ≤ (c : Int) - 7) = false := by simp; omega
              rw [dr] at hq
              simp only [Bool.false_or, Bool.and_false, if_false, Bool.false_eq_true] at hq
              have IV : Hid (AlI E P g (c + 1) false) := ⟨by omega, fun q => (by cases q), fun _ _ => by rw [hr]; omega⟩
              clear HNE hnx hn2 hr hrc HEA
              obtain ⟨xb, cb, rfl, g3⟩ := hq.nil rfl
              have A3 := Lib.hid (A2.out.gr' g3)
              have q8 := A3.out.at_.c8
              have z8 := A3.out.fz 8
              simp only [Nat.zero_add] at q8
              clear hq g3 A2 C
              go_wp2_with fail
              refine (WN.out _).mono ?_
              rintro y w4 ⟨⟨a1, a2, a3, rfl⟩, g4⟩
              have A4 := Lib.hid (A3.out.gr' g4)
              replace q8 := A4.out.at_.c8
              replace z8 := A4.out.fz 8
              simp only [Nat.zero_add] at q8
              clear g4 A3 WN
              have AF := Lib.hid A4.out
              clear A4
              go_wp2_with fail
              all_goals
                go_roundg (7 + P - (c + 1))
                case measure => omega
                case rel => exact ⟨c + 1, g, by go_num, by omega, by omega, Nat.le_refl _, AF.out, IV.out⟩
          · have hn2 := HEA.out rfl
            simp only [Bool.true_or, Bool.true_and, if_true] at hq
            have IV : Hid (AlI E P (g + 1) (c + 1) true) := ⟨by omega, fun _ => (by omega), fun q => by cases q⟩
            have emn : min (E : Int) ((c : Int) - 6) = (g : Int) + 1 := by omega
            have dmn : ((g : Int) + 1 != (g : Int) + 1) = false := by simp
            clear HNE hn2 HEA
            obtain ⟨gb, cb, rfl, b0, g3⟩ := hq.one rfl
            have A3 := Lib.hid (A2.out.gr' g3)
            have q8 := A3.out.at_.c8
            have z8 := A3.out.fz 8
            simp only [Nat.zero_add] at q8
            clear hq g3 A2 C
            have AF := Lib.hid (A3.out.got ((g + 1 : Nat) : Int))
            have eg : ((g + 1 : Nat) : Int) = (g : Int) + 1 := by omega
            rw [eg] at AF
            clear A3 eg
            go_wp2_with fail
            all_goals
              go_roundg (7 + P - (c + 1))
              case measure => omega
              case rel => exact ⟨c + 1, g + 1, by go_num, by omega, by omega, Nat.le_refl _, AF.out, IV.out⟩
        · have dg : decide ((g : Int) < (E : Int)) = false := by simp; omega
          rw [dg] at hq
          simp only [Bool.false_and, Bool.false_eq_true, if_false] at hq
          cases ea
          · skip
            have IV : Hid (AlI E P g (c + 1) false) := ⟨by omega, fun q => (by cases q), fun _ q => by omega⟩
            clear HNE HEA
            obtain ⟨xb, cb, rfl, g3⟩ := hq.nil rfl
            have A3 := Lib.hid (A2.out.gr' g3)
            have q8 := A3.out.at_.c8
            have z8 := A3.out.fz 8
            simp only [Nat.zero_add] at q8
            clear hq g3 A2 C
            have AF := Lib.hid A3.out
            clear A3
            go_wp2_with fail
            all_goals
              go_roundg (7 + P - (c + 1))
              case measure => omega
              case rel => exact ⟨c + 1, g, by go_num, by omega, by omega, Nat.le_refl _, AF.out, IV.out⟩
          · have hn2 := HEA.out rfl
            have IV : Hid (AlI E P g (c + 1) true) := ⟨by omega, fun _ => (by omega), fun q => by cases q⟩
            have emn : min (E : Int) ((c : Int) - 6) = (g : Int) := by omega
            have dmn : ((g : Int) != (g : Int)) = false := by simp
            clear HNE hn2 HEA
            obtain ⟨xb, cb, rfl, g3⟩ := hq.nil rfl
            have A3 := Lib.hid (A2.out.gr' g3)
            have q8 := A3.out.at_.c8
            have z8 := A3.out.fz 8
            simp only [Nat.zero_add] at q8
            clear hq g3 A2 C
            have AF := Lib.hid A3.out
            clear A3
            go_wp2_with fail
            all_goals
              go_roundg (7 + P - (c + 1))
              case measure => omega
              case rel => exact ⟨c + 1, g, by go_num, by omega, by omega, Nat.le_refl _, AF.out, IV.out⟩
      · have hltz : ¬ (c : Int) < 7 + (P : Int) := by omega
        obtain ⟨al, hgE, hea, hne⟩ := HI.out
        have hge : g = E := by
          by_cases q : g < E
          · cases ea
            · have a1 := hne rfl q
              have a2 := (rel_bd (⟨HT.out, by omega, by omega⟩ : Quan E P (g + 1))).2
              omega
            · have := hea rfl
              omega
          · omega
        subst hge
        have q8 := al.at_.c8
        simp only [Nat.zero_add] at q8
        have G := Lib.hid al.gr
        clear al hea hne HI
        go_wp2
        go_ret
        exact ⟨ret_bool' (by simp), G.out⟩
  · have TM := Lib.hid (taskMay_no e p w0 ht)
    clear ht
    go_wp2_with fail
    refine TM.out.mono ?_
    rintro x w1 ⟨rfl, rfl⟩
    go_wp2
    go_ret
    exact ⟨rfl, G0.out⟩
end Go.Proofs.Ytkapejgokcpbiaa
