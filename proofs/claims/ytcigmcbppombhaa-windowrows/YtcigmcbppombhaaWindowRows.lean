/- PROVED: windows of a job follow each other as the law WindowRows says; no condition. -/
import Derived.Test.YtcigmcbppombhaaRows
import Derived.WalkKit
import Derived.ProofKit
import Derived.OpenShut
import Derived.ShutString
import Derived.Test.YtcigmcbppombhaaL3
namespace Go.Proofs.Ytcigmcbppombhaa.windowRows
open Go.ChangeShapes Go.WideShapes Go.ChangeAt Go.RowKit
open Go.ChangeMaps (open_string shut_string)
set_option linter.unusedVariables false      -- a walk need not use every 'w<i>' (that an integer argument fits its kind)

theorem own : ownKnob Try.prog.godebug = none := by kernel_rfl

/-! ### STEP 1: THE WALK: the Go text returns true. 'Grown w w'': the world has at most new blocks (Derived/RowKit3.lean). Part the cases AHEAD of 'go_enter' where a test parts the walk; take each callee by a contract of your own. -/
set_option maxRecDepth 100000 in
set_option maxHeartbeats 8000000 in
theorem walk (a0 : Int) (a1 : Int) (w0 : (Lit.int .i64 a0).wf = true) (w1 : (Lit.int .i64 a1).wf = true) (w : World) :
    Calls Try.prog 4 #[.int .i64 a0, .int .i64 a1] w fun e w' => e = .returned (.bool true) ∧ Grown w w' := by
  clear w0 w1
  by_cases ht : Task a0 a1
  · have h1 := ht.e1; have h2 := ht.ep; have h3 := ht.pm
    by_cases c : 3000 < a0
    · go_enter Try.func4, Try.ntmps4
      go_wp2_with fail
      refine (awake_true _).mono ?_
      rintro e w0 ⟨rfl, rfl⟩
      go_wp2_with fail
      refine (taskMay_yes _ _ _ ht).mono ?_
      rintro e w0 ⟨rfl, rfl⟩
      go_wp2
      go_ret
      exact ⟨rfl, Grown.refl _⟩
    · have c' : a0 ≤ 3000 := by omega
      clear c
      go_enter Try.func4, Try.ntmps4
      go_wp2_with fail
      refine (awake_true _).mono ?_
      rintro e w0 ⟨rfl, rfl⟩
      go_wp2_with fail
      refine (taskMay_yes _ _ _ ht).mono ?_
      rintro e w0 ⟨rfl, rfl⟩
      go_wp2
      go_loop [5] (fun i => Cnt a0 i) (fun i => (a0 + 1 - intOf i).toNat)
      case atStart => exact ⟨1, rfl, by omega, by omega⟩
      case round =>
        obtain ⟨k, rfl, k1, k2⟩ := hrel
        by_cases hk : k ≤ a0
        · have hq : Quan a0 a1 k := ⟨ht, k1, hk⟩
          obtain ⟨b0, b1⟩ := ip_bd hq
          obtain ⟨r0, r1⟩ := rel_bd hq
          obtain ⟨d0, d1⟩ := dl_bd hq
          obtain ⟨f1, f2⟩ := rel_fac hq
          obtain ⟨f3, f4⟩ := dl_fac hq
          have f5 := rel_lt_dl hq
          have fo := follow (e := a0) (p := a1) (i := k) h1
          have z1 : k = 1 → rel a0 a1 k = 0 := fun x => by subst x; exact rel_one
          have z2 : k = a0 → dl a0 a1 k = a1 := fun x => by subst x; exact dl_last h1
          have gb := fun x : a0 < a1 => gp_bd hq x
          have bb := bt_01 (e := a0) (p := a1) (i := k)
          obtain ⟨r, hr⟩ : ∃ r, rel a0 a1 k = r := ⟨_, rfl⟩
          obtain ⟨d, hd⟩ : ∃ d, dl a0 a1 k = d := ⟨_, rfl⟩
          obtain ⟨b, hb⟩ : ∃ b, bt a0 a1 k = b := ⟨_, rfl⟩
          obtain ⟨g, hg⟩ : ∃ g, gp a0 a1 k = g := ⟨_, rfl⟩
          obtain ⟨s, hs⟩ : ∃ s, rel a0 a1 (k + 1) = s := ⟨_, rfl⟩
          rw [hr] at r0 r1 f1 f2 f5 z1
          rw [hd] at d0 d1 f3 f4 f5 z2
          rw [hd, hs, hb] at fo
          rw [hb] at bb
          rw [hd, hg] at gb
          have HR := Lib.hid hr
          have HD := Lib.hid hd
          have HB := Lib.hid hb
          have HG := Lib.hid hg
          have HS := Lib.hid hs
          clear hr hd hb hg hs
          have l1 : (r + 1) * a0 = r * a0 + a0 := by rw [Int.add_mul]; omega
          have l2 : (d - 1) * a0 = d * a0 - a0 := by rw [Int.sub_mul]; omega
          have l3 : (k - 1) * a1 = k * a1 - a1 := by rw [Int.sub_mul]; omega
          obtain ⟨A, hA⟩ : ∃ A, (r + 1) * a0 = A := ⟨_, rfl⟩
          obtain ⟨B, hB⟩ : ∃ B, k * a1 = B := ⟨_, rfl⟩
          obtain ⟨C, hC⟩ : ∃ C, d * a0 = C := ⟨_, rfl⟩
          obtain ⟨D, hD⟩ : ∃ D, (d - 1) * a0 = D := ⟨_, rfl⟩
          obtain ⟨E, hE⟩ : ∃ E, (k - 1) * a1 = E := ⟨_, rfl⟩
          obtain ⟨F, hF⟩ : ∃ F, r * a0 = F := ⟨_, rfl⟩
          rw [hA, hF] at l1
          rw [hD, hC] at l2
          rw [hE, hB] at l3
          rw [hF, hE] at f1
          rw [hE, hA] at f2
          rw [hB, hC] at f3
          rw [hD, hB] at f4
          rw [hB] at b0 b1
          have c1 : 0 ≤ F := by rw [← hF]; exact Int.mul_nonneg r0 (by omega)
          have g0 : A ≤ 1200000000000 := by omega
          have g1 : 0 ≤ A := by omega
          have g2 : C ≤ 1200000000000 := by omega
          have g3 : 0 ≤ C := by omega
          have g4 : D ≤ 1200000000000 := by omega
          have g5 : 0 ≤ D := by omega
          have g6 : E ≤ 1200000000000 := by omega
          have g7 : 0 ≤ E := by omega
          have g8 : F ≤ 1200000000000 := by omega
          clear l1 l2 l3
          have y1 : ((k == 1) = true ∧ (r != 0) = false) ∨ (k == 1) = false := by
            by_cases x : k = 1
            · exact .inl ⟨by simp [x], by simp [z1 x]⟩
            · exact .inr (by simp [x])
          clear z1
          by_cases x : k = a0
          · have hz := z2 x
            have y2 : (k == a0) = true := by simp [x]
            have y3 : (d != a1) = false := by simp [hz]
            have y4 : a0 ≤ k := by omega
            clear z2 hz x fo
            rcases y1 with ⟨y1, y5⟩ | y1
            · rcases Int.lt_or_le (2 * a0) a1 with cc | cc
              · clear gb
                go_wp2_with fail
                refine (release_yes _ _ _ r _ hq HR.out).mono ?_
                rintro e w0 ⟨rfl, rfl⟩
                go_wp2_with fail
                refine (deadline_yes _ _ _ d _ hq HD.out).mono ?_
                rintro e w0 ⟨rfl, rfl⟩
                go_wp2_with fail
                refine (group_no _ _ _ _ (.inr ⟨hq, .inl cc⟩)).mono ?_
                rintro e w0 ⟨rfl, rfl⟩
                go_wp2_with fail
                refine (heavy_no _ _ _ (.inr ⟨ht, cc⟩)).mono ?_
                rintro e w0 ⟨rfl, rfl⟩
                go_wp2
                go_round
                case rel => exact ⟨k + 1, rfl, by omega, by omega⟩
                case measure => simp [intOf]; omega
              · rcases Int.lt_or_le a0 a1 with ce | ce
                · obtain ⟨gb1, gb2⟩ := gb ce
                  clear gb
                  go_wp2_with fail
                  refine (release_yes _ _ _ r _ hq HR.out).mono ?_
                  rintro e w0 ⟨rfl, rfl⟩
                  go_wp2_with fail
                  refine (deadline_yes _ _ _ d _ hq HD.out).mono ?_
                  rintro e w0 ⟨rfl, rfl⟩
                  go_wp2_with fail
                  refine (group_yes _ _ _ g _ hq cc ce HG.out).mono ?_
                  rintro e w0 ⟨rfl, rfl⟩
                  go_wp2_with fail
                  refine (heavy_yes _ _ _ ht cc).mono ?_
                  rintro e w0 ⟨rfl, rfl⟩
                  go_wp2
                  go_round
                  case rel => exact ⟨k + 1, rfl, by omega, by omega⟩
                  case measure => simp [intOf]; omega
                · clear gb
                  have ee : a0 = a1 := by omega
                  have EE := Lib.hid ee
                  clear ee
                  go_wp2_with fail
                  refine (release_yes _ _ _ r _ hq HR.out).mono ?_
                  rintro e w0 ⟨rfl, rfl⟩
                  go_wp2_with fail
                  refine (deadline_yes _ _ _ d _ hq HD.out).mono ?_
                  rintro e w0 ⟨rfl, rfl⟩
                  go_wp2_with fail
                  refine (group_no _ _ _ _ (.inr ⟨hq, .inr EE.out⟩)).mono ?_
                  rintro e w0 ⟨rfl, rfl⟩
                  go_wp2_with fail
                  refine (heavy_yes _ _ _ ht cc).mono ?_
                  rintro e w0 ⟨rfl, rfl⟩
                  go_wp2
                  go_round
                  case rel => exact ⟨k + 1, rfl, by omega, by omega⟩
                  case measure => simp [intOf]; omega
            · rcases Int.lt_or_le (2 * a0) a1 with cc | cc
              · clear gb
                go_wp2_with fail
                refine (release_yes _ _ _ r _ hq HR.out).mono ?_
                rintro e w0 ⟨rfl, rfl⟩
                go_wp2_with fail
                refine (deadline_yes _ _ _ d _ hq HD.out).mono ?_
                rintro e w0 ⟨rfl, rfl⟩
                go_wp2_with fail
                refine (group_no _ _ _ _ (.inr ⟨hq, .inl cc⟩)).mono ?_
                rintro e w0 ⟨rfl, rfl⟩
                go_wp2_with fail
                refine (heavy_no _ _ _ (.inr ⟨ht, cc⟩)).mono ?_
                rintro e w0 ⟨rfl, rfl⟩
                go_wp2
                go_round
                case rel => exact ⟨k + 1, rfl, by omega, by omega⟩
                case measure => simp [intOf]; omega
              · rcases Int.lt_or_le a0 a1 with ce | ce
                · obtain ⟨gb1, gb2⟩ := gb ce
                  clear gb
                  go_wp2_with fail
                  refine (release_yes _ _ _ r _ hq HR.out).mono ?_
                  rintro e w0 ⟨rfl, rfl⟩
                  go_wp2_with fail
                  refine (deadline_yes _ _ _ d _ hq HD.out).mono ?_
                  rintro e w0 ⟨rfl, rfl⟩
                  go_wp2_with fail
                  refine (group_yes _ _ _ g _ hq cc ce HG.out).mono ?_
                  rintro e w0 ⟨rfl, rfl⟩
                  go_wp2_with fail
                  refine (heavy_yes _ _ _ ht cc).mono ?_
                  rintro e w0 ⟨rfl, rfl⟩
                  go_wp2
                  go_round
                  case rel => exact ⟨k + 1, rfl, by omega, by omega⟩
                  case measure => simp [intOf]; omega
                · clear gb
                  have ee : a0 = a1 := by omega
                  have EE := Lib.hid ee
                  clear ee
                  go_wp2_with fail
                  refine (release_yes _ _ _ r _ hq HR.out).mono ?_
                  rintro e w0 ⟨rfl, rfl⟩
                  go_wp2_with fail
                  refine (deadline_yes _ _ _ d _ hq HD.out).mono ?_
                  rintro e w0 ⟨rfl, rfl⟩
                  go_wp2_with fail
                  refine (group_no _ _ _ _ (.inr ⟨hq, .inr EE.out⟩)).mono ?_
                  rintro e w0 ⟨rfl, rfl⟩
                  go_wp2_with fail
                  refine (heavy_yes _ _ _ ht cc).mono ?_
                  rintro e w0 ⟨rfl, rfl⟩
                  go_wp2
                  go_round
                  case rel => exact ⟨k + 1, rfl, by omega, by omega⟩
                  case measure => simp [intOf]; omega
          · have y2 : (k == a0) = false := by simp [x]
            have y4 : k < a0 := by omega
            have hq1 : Quan a0 a1 (k + 1) := ⟨ht, by omega, by omega⟩
            obtain ⟨s0, s1⟩ := rel_bd hq1
            rw [HS.out] at s0 s1
            clear z2 x
            rcases y1 with ⟨y1, y5⟩ | y1
            · rcases Int.lt_or_le (2 * a0) a1 with cc | cc
              · clear gb
                go_wp2_with fail
                refine (release_yes _ _ _ r _ hq HR.out).mono ?_
                rintro e w0 ⟨rfl, rfl⟩
                go_wp2_with fail
                refine (deadline_yes _ _ _ d _ hq HD.out).mono ?_
                rintro e w0 ⟨rfl, rfl⟩
                go_wp2_with fail
                refine (release_yes _ _ _ s _ hq1 HS.out).mono ?_
                rintro e w0 ⟨rfl, rfl⟩
                go_wp2_with fail
                refine (bit_yes _ _ _ b _ hq HB.out).mono ?_
                rintro e w0 ⟨rfl, rfl⟩
                go_wp2_with fail
                refine (group_no _ _ _ _ (.inr ⟨hq, .inl cc⟩)).mono ?_
                rintro e w0 ⟨rfl, rfl⟩
                go_wp2_with fail
                refine (heavy_no _ _ _ (.inr ⟨ht, cc⟩)).mono ?_
                rintro e w0 ⟨rfl, rfl⟩
                go_wp2
                go_round
                case rel => exact ⟨k + 1, rfl, by omega, by omega⟩
                case measure => simp [intOf]; omega
              · rcases Int.lt_or_le a0 a1 with ce | ce
                · obtain ⟨gb1, gb2⟩ := gb ce
                  clear gb
                  go_wp2_with fail
                  refine (release_yes _ _ _ r _ hq HR.out).mono ?_
                  rintro e w0 ⟨rfl, rfl⟩
                  go_wp2_with fail
                  refine (deadline_yes _ _ _ d _ hq HD.out).mono ?_
                  rintro e w0 ⟨rfl, rfl⟩
                  go_wp2_with fail
                  refine (release_yes _ _ _ s _ hq1 HS.out).mono ?_
                  rintro e w0 ⟨rfl, rfl⟩
                  go_wp2_with fail
                  refine (bit_yes _ _ _ b _ hq HB.out).mono ?_
                  rintro e w0 ⟨rfl, rfl⟩
                  go_wp2_with fail
                  refine (group_yes _ _ _ g _ hq cc ce HG.out).mono ?_
                  rintro e w0 ⟨rfl, rfl⟩
                  go_wp2_with fail
                  refine (heavy_yes _ _ _ ht cc).mono ?_
                  rintro e w0 ⟨rfl, rfl⟩
                  go_wp2
                  go_round
                  case rel => exact ⟨k + 1, rfl, by omega, by omega⟩
                  case measure => simp [intOf]; omega
                · clear gb
                  have ee : a0 = a1 := by omega
                  have EE := Lib.hid ee
                  clear ee
                  go_wp2_with fail
                  refine (release_yes _ _ _ r _ hq HR.out).mono ?_
                  rintro e w0 ⟨rfl, rfl⟩
                  go_wp2_with fail
                  refine (deadline_yes _ _ _ d _ hq HD.out).mono ?_
                  rintro e w0 ⟨rfl, rfl⟩
                  go_wp2_with fail
                  refine (release_yes _ _ _ s _ hq1 HS.out).mono ?_
                  rintro e w0 ⟨rfl, rfl⟩
                  go_wp2_with fail
                  refine (bit_yes _ _ _ b _ hq HB.out).mono ?_
                  rintro e w0 ⟨rfl, rfl⟩
                  go_wp2_with fail
                  refine (group_no _ _ _ _ (.inr ⟨hq, .inr EE.out⟩)).mono ?_
                  rintro e w0 ⟨rfl, rfl⟩
                  go_wp2_with fail
                  refine (heavy_yes _ _ _ ht cc).mono ?_
                  rintro e w0 ⟨rfl, rfl⟩
                  go_wp2
                  go_round
                  case rel => exact ⟨k + 1, rfl, by omega, by omega⟩
                  case measure => simp [intOf]; omega
            · rcases Int.lt_or_le (2 * a0) a1 with cc | cc
              · clear gb
                go_wp2_with fail
                refine (release_yes _ _ _ r _ hq HR.out).mono ?_
                rintro e w0 ⟨rfl, rfl⟩
                go_wp2_with fail
                refine (deadline_yes _ _ _ d _ hq HD.out).mono ?_
                rintro e w0 ⟨rfl, rfl⟩
                go_wp2_with fail
                refine (release_yes _ _ _ s _ hq1 HS.out).mono ?_
                rintro e w0 ⟨rfl, rfl⟩
                go_wp2_with fail
                refine (bit_yes _ _ _ b _ hq HB.out).mono ?_
                rintro e w0 ⟨rfl, rfl⟩
                go_wp2_with fail
                refine (group_no _ _ _ _ (.inr ⟨hq, .inl cc⟩)).mono ?_
                rintro e w0 ⟨rfl, rfl⟩
                go_wp2_with fail
                refine (heavy_no _ _ _ (.inr ⟨ht, cc⟩)).mono ?_
                rintro e w0 ⟨rfl, rfl⟩
                go_wp2
                go_round
                case rel => exact ⟨k + 1, rfl, by omega, by omega⟩
                case measure => simp [intOf]; omega
              · rcases Int.lt_or_le a0 a1 with ce | ce
                · obtain ⟨gb1, gb2⟩ := gb ce
                  clear gb
                  go_wp2_with fail
                  refine (release_yes _ _ _ r _ hq HR.out).mono ?_
                  rintro e w0 ⟨rfl, rfl⟩
                  go_wp2_with fail
                  refine (deadline_yes _ _ _ d _ hq HD.out).mono ?_
                  rintro e w0 ⟨rfl, rfl⟩
                  go_wp2_with fail
                  refine (release_yes _ _ _ s _ hq1 HS.out).mono ?_
                  rintro e w0 ⟨rfl, rfl⟩
                  go_wp2_with fail
                  refine (bit_yes _ _ _ b _ hq HB.out).mono ?_
                  rintro e w0 ⟨rfl, rfl⟩
                  go_wp2_with fail
                  refine (group_yes _ _ _ g _ hq cc ce HG.out).mono ?_
                  rintro e w0 ⟨rfl, rfl⟩
                  go_wp2_with fail
                  refine (heavy_yes _ _ _ ht cc).mono ?_
                  rintro e w0 ⟨rfl, rfl⟩
                  go_wp2
                  go_round
                  case rel => exact ⟨k + 1, rfl, by omega, by omega⟩
                  case measure => simp [intOf]; omega
                · clear gb
                  have ee : a0 = a1 := by omega
                  have EE := Lib.hid ee
                  clear ee
                  go_wp2_with fail
                  refine (release_yes _ _ _ r _ hq HR.out).mono ?_
                  rintro e w0 ⟨rfl, rfl⟩
                  go_wp2_with fail
                  refine (deadline_yes _ _ _ d _ hq HD.out).mono ?_
                  rintro e w0 ⟨rfl, rfl⟩
                  go_wp2_with fail
                  refine (release_yes _ _ _ s _ hq1 HS.out).mono ?_
                  rintro e w0 ⟨rfl, rfl⟩
                  go_wp2_with fail
                  refine (bit_yes _ _ _ b _ hq HB.out).mono ?_
                  rintro e w0 ⟨rfl, rfl⟩
                  go_wp2_with fail
                  refine (group_no _ _ _ _ (.inr ⟨hq, .inr EE.out⟩)).mono ?_
                  rintro e w0 ⟨rfl, rfl⟩
                  go_wp2_with fail
                  refine (heavy_yes _ _ _ ht cc).mono ?_
                  rintro e w0 ⟨rfl, rfl⟩
                  go_wp2
                  go_round
                  case rel => exact ⟨k + 1, rfl, by omega, by omega⟩
                  case measure => simp [intOf]; omega
        · have hk' : a0 < k := by omega
          clear hk
          go_wp2
          go_ret
          exact ⟨rfl, Grown.refl _⟩
  · go_enter Try.func4, Try.ntmps4
    go_wp2_with fail
    refine (awake_true _).mono ?_
    rintro e w0 ⟨rfl, rfl⟩
    go_wp2_with fail
    refine (taskMay_no _ _ _ ht).mono ?_
    rintro e w0 ⟨rfl, rfl⟩
    go_wp2
    go_ret
    exact ⟨rfl, Grown.refl _⟩

/-! ### THE ROW's STEP: WRITTEN OUT: LEAVE IT -/
set_option maxRecDepth 100000 in
theorem lifted (os : Os) (started : os.Started) (H : Type) (enc : TypeId × Value → H) :
    ReturnsInHanded {} Try.checked os 4 .any (Rows.windowRowsSpec.pre6 enc Try.prog Try.f4 Rows.windowRowsRow.domain false) (Rows.windowRowsSpec.post enc Try.prog Try.f4 false true false false) := by
  refine returnsInHanded_of_change (C := Try.checked) own started (by kernel_rfl) Try.func4
    (ChangeSpec.witness6 (enc := enc) (C := Try.checked) false ⟨#[], #[.int .i64 0, .int .i64 0], []⟩ 8 (by kernel_rfl) (by kernel_rfl) (by kernel_rfl) (by kernel_rfl)) ?_
  intro W base args ds gs before hval0 hW hcnd _
  have hval : ∀ (j : Nat) t v, Try.f4.params[j]? = some t → args[j]? = some v → Value.okWide Try.prog W .any base t v := hval0
  have hW' := hW
  obtain ⟨p, q, hA0, hV, rfl, hfz, hnd⟩ := hW
  have hA : DataW.TrodAll enc Try.prog W 0 (fun _ => true) true Try.f4.params.toList args.toList ds p := hA0
  rw [Try.params4] at hA hval
  obtain ⟨v0, vs0, d0, ds0, p0, q0, hargs, rfl, rfl, h0, r0⟩ := trodAll_cons hA
  obtain ⟨v1, vs1, d1, ds1, p1, q1, rfl, rfl, rfl, h1, r1⟩ := trodAll_cons r0
  obtain ⟨rfl, rfl, rfl⟩ := trodAll_nil r1
  obtain rfl : args = #[v0, v1] := by cases args; simp_all
  obtain ⟨rfl, rfl⟩ := trodVars_none hV
  obtain ⟨a0, rfl, rfl, rfl, w0⟩ := open_int Try.underlying3 (hval 0 3 v0 rfl rfl) h0
  obtain ⟨a1, rfl, rfl, rfl, w1⟩ := open_int Try.underlying3 (hval 1 3 v1 rfl rfl) h1
  clear hA0 hval0
  simp only [List.append_nil] at hW'
  refine (walk a0 a1 w0 w1 W).mono fun e W' ⟨he, hg⟩ => ?_
  subst he
  exact ⟨_, rfl, post_of_same (pa := []) (pv := []) hW' (fun _ _ _ => (trodAll_cons_mk (shut_bool Try.underlying4 _) trodAll_mk0)) (fun sp _ => (trodAll_cons_mk (shut_int Try.underlying3 w0) (trodAll_cons_mk (shut_int Try.underlying3 w1) trodAll_mk0))) (fun _ _ => rfl) rfl
    (hg.frame _) hg.2.1 (ok_one (by kernel_rfl) rfl (okWide_bool_mk Try.underlying4 _))⟩

theorem over : Rows.windowRowsRow.holds Try.pinned (OpenSpec.ofChange Rows.windowRowsSpec) :=
  OpenClaim.holds_of_wide 4 Try.f4 rfl rfl rfl rfl rfl rfl rfl ⟨rfl, rfl, rfl, rfl, rfl⟩ rfl rfl rfl rfl rfl (by kernel_rfl) Try.func4 (by kernel_rfl)
    (of_decide_eq_true (by kernel_rfl)) (by unfold Func.isWrapper; first | (rw [if_pos (by decide +kernel)]; kernel_rfl) | (rw [if_neg (by decide +kernel)]; exact ⟨rfl, rfl⟩))
    (fun os started H enc _ => lifted os started H enc)

/-- ████ THE STATEMENT ████ -/
theorem proved : Rows.WindowRowsSaid :=
  over
#print axioms proved
end Go.Proofs.Ytcigmcbppombhaa.windowRows
