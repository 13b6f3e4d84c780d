/- LedgerKnown walked. -/
import Derived.Test.YtbimaaknjedonaaB4
namespace Go.Proofs.Ytbimaaknjedonaa
open Go.RowKit Go.Lib Go.Maps
set_option linter.unusedVariables false

/-- What the nine calls answer. -/
def va (j : Nat) : Int := [0, 0, 7, 4, 2, 2, 0, 8, 0].getD j 0
/-- A row of the nine. -/
def Nine (w : World) (b : Nat) : Prop := ∀ j, j < 9 → w.cell? ⟨b, j, none⟩ = some (.int .i64 (va j))
theorem nine_new (w : World) (t : TypeId) : Nine (w.alloc (.cells #[.int .i64 0, .int .i64 0, .int .i64 7, .int .i64 4, .int .i64 2, .int .i64 2, .int .i64 0, .int .i64 8, .int .i64 0] t)) w.heap.size := by
  intro j hj
  match j, hj with
  | 0, _ => simp [go_sem, va]
  | 1, _ => simp [go_sem, va]
  | 2, _ => simp [go_sem, va]
  | 3, _ => simp [go_sem, va]
  | 4, _ => simp [go_sem, va]
  | 5, _ => simp [go_sem, va]
  | 6, _ => simp [go_sem, va]
  | 7, _ => simp [go_sem, va]
  | 8, _ => simp [go_sem, va]
theorem Nine.gr {w w' : World} {b : Nat} (h : Nine w b) (g : Gr w w') : Nine w' b := fun j hj => kcell g (h j hj)
/-- The loop over the nine. -/
def NineRel (w0 : World) (x y z : Lg) (A B : Nat) (s : Value) (wr : World) : Prop := ∃ i : Nat, s = .int .i64 (i : Nat) ∧ i ≤ 9 ∧ T3 w0 wr x y z ∧ Nine wr A ∧ Nine wr B
/-- The loop of the 64. -/
def ManyRel (w0 : World) (x y : Lg) (l : Nat) (s : Value) (wr : World) : Prop := ∃ (i : Nat) (L : List Wt), s = .int .i64 (i : Nat) ∧ i ≤ 64 ∧ T3 w0 wr ⟨l, cut 1000, L⟩ y x ∧ Fill 64 1 i i L

set_option maxHeartbeats 4000000 in
theorem known_walk (w : World) : Calls Try.prog 4 #[] w fun x w' => x = .returned (.bool true) ∧ Gr w w' := by
  go_enter Try.func4, Try.ntmps4
  go_wp2_with fail
  refine (awake8 _).mono ?_
  rintro x w1 ⟨rfl, g1⟩
  have G1 := Lib.hid g1
  clear g1
  go_wp2_with fail
  refine (new_any 2 _).mono ?_
  rintro x w2 ⟨rfl, hw⟩
  subst hw
  go_wp2_with fail
  refine (new_any 0 _).mono ?_
  rintro x w2 ⟨rfl, hw⟩
  subst hw
  go_wp2_with fail
  refine (new_any 1000 _).mono ?_
  rintro x w2 ⟨rfl, hw⟩
  subst hw
  have H := Lib.hid (t3_new G1.out 2 0 1000)
  have e1 : (w1.alloc (LO 2)).heap.size = w1.heap.size + 1 := by simp
  have e2 : ((w1.alloc (LO 2)).alloc (LO 0)).heap.size = w1.heap.size + 1 + 1 := by simp
  simp only [e2]
  generalize ((w1.alloc (LO 2)).alloc (LO 0)).alloc (LO 1000) = w2 at H ⊢
  obtain ⟨l, hl⟩ : ∃ l, w1.heap.size = l := ⟨_, rfl⟩
  obtain ⟨z, hz⟩ : ∃ z, w1.heap.size + 1 = z := ⟨_, rfl⟩
  obtain ⟨m, hm⟩ : ∃ m, w1.heap.size + 1 + 1 = m := ⟨_, rfl⟩
  simp only [hm] at H ⊢
  simp only [hz] at H ⊢
  simp only [hl] at H ⊢
  clear e1 e2 hl hz hm
  go_wp2_with fail
  refine (t3_add H.out 1 1 4093 0 (wfi (by omega) (by omega)) kn1).mono ?_
  rintro x w3 ⟨rfl, h2⟩
  clear H
  have H := Lib.hid h2
  clear h2
  go_wp2_with fail
  refine (t3_add H.out 2 1 4091 0 (wfi (by omega) (by omega)) kn2).mono ?_
  rintro x w4 ⟨rfl, h2⟩
  clear H
  have H := Lib.hid h2
  clear h2
  go_wp2_with fail
  refine (t3_add H.out 3 1 4099 7 (wfi (by omega) (by omega)) kn3).mono ?_
  rintro x w5 ⟨rfl, h2⟩
  clear H
  have H := Lib.hid h2
  clear h2
  go_wp2_with fail
  refine (t3_add H.out 1 1 1 4 (wfi (by omega) (by omega)) kn4).mono ?_
  rintro x w6 ⟨rfl, h2⟩
  clear H
  have H := Lib.hid h2
  clear h2
  go_wp2_with fail
  refine (t3_add H.out 4 0 5 2 (wfi (by omega) (by omega)) kn5).mono ?_
  rintro x w7 ⟨rfl, h2⟩
  clear H
  have H := Lib.hid h2
  clear h2
  go_wp2_with fail
  refine (t3_add H.out 1 5 4 2 (wfi (by omega) (by omega)) kn6).mono ?_
  rintro x w8 ⟨rfl, h2⟩
  clear H
  have H := Lib.hid h2
  clear h2
  go_wp2_with fail
  refine (t3_add H.out 5 4093 4093 0 (wfi (by omega) (by omega)) kn7).mono ?_
  rintro x w9 ⟨rfl, h2⟩
  clear H
  have H := Lib.hid h2
  clear h2
  go_wp2_with fail
  refine (t3_add H.out 6 4092 4093 8 (wfi (by omega) (by omega)) kn8).mono ?_
  rintro x w10 ⟨rfl, h2⟩
  clear H
  have H := Lib.hid h2
  clear h2
  go_wp2_with fail
  refine (t3_add H.out 7 1 4091 0 (wfi (by omega) (by omega)) kn9).mono ?_
  rintro x w11 ⟨rfl, h2⟩
  clear H
  have H := Lib.hid h2
  clear h2
  replace H : Hid (T3 w w11 ⟨l, cut 2, kC⟩ ⟨z, cut 0, []⟩ ⟨m, cut 1000, []⟩) := H
  have NA := Lib.hid ((nine_new w11 32).gr ((Ke.refl _ _).alloc (.cells #[.int .i64 0, .int .i64 0, .int .i64 7, .int .i64 4, .int .i64 2, .int .i64 2, .int .i64 0, .int .i64 8, .int .i64 0] 32)))
  have NB := Lib.hid (nine_new (w11.alloc (.cells #[.int .i64 0, .int .i64 0, .int .i64 7, .int .i64 4, .int .i64 2, .int .i64 2, .int .i64 0, .int .i64 8, .int .i64 0] 32)) 32)
  have eB : (w11.alloc (.cells #[.int .i64 0, .int .i64 0, .int .i64 7, .int .i64 4, .int .i64 2, .int .i64 2, .int .i64 0, .int .i64 8, .int .i64 0] 32)).heap.size = w11.heap.size + 1 := by simp
  rw [eB] at NB
  have H' := Lib.hid ((H.out.gr ((Ke.refl _ _).alloc (.cells #[.int .i64 0, .int .i64 0, .int .i64 7, .int .i64 4, .int .i64 2, .int .i64 2, .int .i64 0, .int .i64 8, .int .i64 0] 32))).gr ((Ke.refl _ _).alloc (.cells #[.int .i64 0, .int .i64 0, .int .i64 7, .int .i64 4, .int .i64 2, .int .i64 2, .int .i64 0, .int .i64 8, .int .i64 0] 32)))
  clear eB H
  go_wp2_with fail
  generalize (w11.alloc (.cells #[.int .i64 0, .int .i64 0, .int .i64 7, .int .i64 4, .int .i64 2, .int .i64 2, .int .i64 0, .int .i64 8, .int .i64 0] 32)).alloc (.cells #[.int .i64 0, .int .i64 0, .int .i64 7, .int .i64 4, .int .i64 2, .int .i64 2, .int .i64 0, .int .i64 8, .int .i64 0] 32) = w12 at NA NB H' ⊢
  obtain ⟨A, hA⟩ : ∃ A, w11.heap.size = A := ⟨_, rfl⟩
  obtain ⟨B, hB⟩ : ∃ B, w11.heap.size + 1 = B := ⟨_, rfl⟩
  rw [hB] at NB ⊢
  rw [hA] at NA ⊢
  clear hA hB
  go_loopw [6] (fun s wr => NineRel w ⟨l, cut 2, kC⟩ ⟨z, cut 0, []⟩ ⟨m, cut 1000, []⟩ A B s wr) (fun s _ => 9 - (RowKit.intOf s).toNat)
  case atStart => exact ⟨0, rfl, by omega, H'.out, NA.out, NB.out⟩
  case round =>
    obtain ⟨i, rfl, hi9, ht, na, nb⟩ := hrel
    have HT := Lib.hid ht
    have NA' := Lib.hid na
    have NB' := Lib.hid nb
    clear ht na nb H' NA NB
    by_cases hi : i < 9
    · have ca := NA'.out i hi
      have cb := NB'.out i hi
      have d1 : decide ((i : Int) < 9) = true := by simp; omega
      have d2 : (i : Int) < 9 := by omega
      go_wp2_with fail
      go_region
      go_wp2
      go_roundw
      case rel => exact ⟨i + 1, rfl, by omega, HT.out.gr ((Ke.refl _ _).drew), NA'.out.gr ((Ke.refl _ _).drew), NB'.out.gr ((Ke.refl _ _).drew)⟩
      case measure => simp [RowKit.intOf]; omega
    · have d1 : decide ((i : Int) < 9) = false := by simp; omega
      have d2 : ¬ (i : Int) < 9 := by omega
      go_wp2_with fail
      refine (t3_can HT.out.swap 1 1 0 kz1).mono ?_
      rintro x w13 ⟨rfl, h2⟩
      clear HT NA' NB'
      have H := Lib.hid h2
      clear h2
      go_wp2_with fail
      refine (t3_add H.out 9 1 1 0 (wfi (by omega) (by omega)) kz2).mono ?_
      rintro x w14 ⟨rfl, h2⟩
      clear H
      have H : Hid (T3 w w14 ⟨z, cut 0, [⟨9, 1, 1⟩]⟩ ⟨l, cut 2, kC⟩ ⟨m, cut 1000, []⟩) := h2
      clear h2
      go_wp2_with fail
      refine (t3_can H.out 1 1000 8 kz3).mono ?_
      rintro x w15 ⟨rfl, h2⟩
      clear H
      have H := Lib.hid h2.turn
      clear h2
      go_wp2_with fail
      go_loopw [10] (fun s wr => ManyRel w ⟨z, cut 0, [⟨9, 1, 1⟩]⟩ ⟨l, cut 2, kC⟩ m s wr) (fun s _ => 64 - (RowKit.intOf s).toNat)
      case atStart => exact ⟨0, [], rfl, by omega, H.out, Fill.nil (by omega)⟩
      case round =>
        obtain ⟨j, L, rfl, hj6, ht, hf⟩ := hrel
        have HT := Lib.hid ht
        have HF := Lib.hid hf
        clear ht hf H
        by_cases hj : j < 64
        · have d3 : decide ((j : Int) < 64) = true := by simp; omega
          have d4 : (j : Int) < 64 := by omega
          have AD : Hid (addV (cut 1000) L j 1 1 = 0) := by
            have := HF.out.add (by omega) (by omega) (e := 1) ⟨by omega, by omega⟩
            rw [if_pos (by omega)] at this
            exact this
          have F' := Lib.hid (HF.out.more (by omega) (by omega) (e := 1) ⟨by omega, by omega⟩ (by omega))
          go_wp2_with fail
          refine (t3_add HT.out (j : Int) 1 1 0 (wfi (by omega) (by omega)) AD.out).mono ?_
          rintro x w16 ⟨rfl, h2⟩
          have H2 := Lib.hid h2
          clear h2 HT
          go_wp2
          go_roundw
          case rel => exact ⟨j + 1, _, rfl, by omega, H2.out, F'.out⟩
          case measure => simp [RowKit.intOf]; omega
        · have d3 : decide ((j : Int) < 64) = false := by simp; omega
          have d4 : ¬ (j : Int) < 64 := by omega
          obtain rfl : j = 64 := by omega
          have M1 := Lib.hid (km1 HF.out)
          have M2 := Lib.hid (km2 HF.out)
          clear HF
          go_wp2_with fail
          refine (t3_can HT.out 1 2 8 M1.out).mono ?_
          rintro x w16 ⟨rfl, h2⟩
          clear HT
          have H := Lib.hid h2.swap
          clear h2
          go_wp2_with fail
          refine (t3_drop H.out 2 (wfi (by omega) (by omega)) true kd1).mono ?_
          rintro x w17 ⟨rfl, h2⟩
          clear H
          have H := Lib.hid h2
          clear h2
          go_wp2_with fail
          refine (t3_drop H.out 2 (wfi (by omega) (by omega)) false kd2).mono ?_
          rintro x w18 ⟨rfl, h2⟩
          clear H
          have H := Lib.hid h2
          clear h2
          go_wp2_with fail
          refine (t3_drop H.out 7 (wfi (by omega) (by omega)) true kd3).mono ?_
          rintro x w19 ⟨rfl, h2⟩
          clear H
          have H := Lib.hid h2
          clear h2
          go_wp2_with fail
          refine (t3_lcm H.out kd4).mono ?_
          rintro x w20 ⟨rfl, h2⟩
          clear H
          have H := Lib.hid h2
          clear h2
          go_wp2_with fail
          refine (t3_sum H.out kd5 kd6).mono ?_
          rintro x w21 ⟨rfl, h2⟩
          clear H
          have H := Lib.hid h2.swap
          clear h2
          go_wp2_with fail
          refine (t3_sum H.out M2.out.1 M2.out.2).mono ?_
          rintro x w22 ⟨rfl, h2⟩
          clear H
          have H := Lib.hid h2.out
          clear h2
          go_wp2
          go_ret
          exact ⟨rfl, H.out⟩
end Go.Proofs.Ytbimaaknjedonaa
