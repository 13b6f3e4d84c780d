/- Contract of math/bits.Div64 (the long division by half words) and Rem64. -/
import Derived.Test.YtbimaaknjedonaaW5
import Derived.Test.YtbimaaknjedonaaDivA
import Derived.Test.YtbimaaknjedonaaShelf2
import Derived.LoopTactic
import Derived.Deep.DeepCutAuto
import Derived.Deep.CutBlock
namespace Go.Proofs.Ytbimaaknjedonaa
open Go.RowKit
set_option linter.unusedVariables false

/-- What holds at the head of the loop that lowers the guess. -/
def Guess (u v y1 y0 : Nat) (x z : Value) : Prop :=
  ∃ k r : Nat, x = .int .u64 (k : Int) ∧ z = .int .u64 (r : Int) ∧ k * y1 + r = u ∧ (u * 4294967296 + v) / (y1 * 4294967296 + y0) ≤ k ∧ r < 4294967296

set_option maxRecDepth 100000 in
set_option maxHeartbeats 1000000 in
theorem div64_big (h l y : Nat) (w : World) (hy : y < 9223372036854775808) (h0 : 0 < h) (hh : h < y) (hl : l < 18446744073709551616) :
    Calls Try.prog 50 #[.int .u64 h, .int .u64 l, .int .u64 y] w fun e w' => e = .returned (.tuple #[.int .u64 (((h * 18446744073709551616 + l) / y : Nat) : Int), .int .u64 (((h * 18446744073709551616 + l) % y : Nat) : Int)]) ∧ Grown w w' := by
  obtain ⟨s, hs, s1, s2, n1, n2⟩ := norm_facts (y := y) (by omega) hy
  obtain ⟨Y, Y1, Y0, H, L, U, V, V1, V0, rd⟩ := ready hy hh hl s1 s2 n1 n2
  have hU := rd.hU
  have hYn := rd.hYn
  have y1 := rd.y1
  have y1' := rd.y1'
  have y0 := rd.y0
  have v1 := rd.v1
  have v0 := rd.v0
  obtain ⟨Q, M, R, st⟩ := step (u := U) (y1 := Y1) (by omega) (by omega)
  have HS := Lib.hid hs
  clear hs
  have d1 : ((y : Int) == 0) = false := by simp; omega
  have d2 : decide (y ≤ h) = false := by simp; omega
  have d3 : ((h : Int) == 0) = false := by simp; omega
  have eY := rd.eY
  have eY1 := rd.eY1
  have eY0 := rd.eY0
  have eH := rd.eH
  have eL := rd.eL
  have eU := rd.eU
  have eV := rd.eV
  have eV1 := rd.eV1
  have eV0 := rd.eV0
  have eQ := st.eQ
  have eQ' := st.eQ'
  have eM := st.eM
  have eR := st.eR
  have z1 : ¬ (Y1 : Int) = 0 := by omega
  have z2 : ((Y1 : Int) == 0) = false := by simp; omega
  have RD := Lib.hid rd
  have ST := Lib.hid st
  clear rd st
  go_enter Try.func50, Try.ntmps50
  go_wp2_with fail
  refine (Try.bits_LeadingZeros64 _ _ (by omega) (by omega)).mono ?_
  rintro e w1 ⟨rfl, rfl⟩
  rw [Int.toNat_natCast, HS.out]
  go_upto_block 0 with fail
  clear eY eY1 eY0 eH eL eU eV eV1 eV0 eQ eQ' eM eR d1 d2 d3
  obtain ⟨q, hq⟩ : ∃ q, q = (U * 4294967296 + V1) / Y := ⟨_, rfl⟩
  have HQ := Lib.hid hq
  clear hq
  go_cut [15, 16] (fun s15 s16 wx => s15 = .int .u64 (q : Int) ∧ w1 = wx)
  case first =>
    go_wp2
    go_loop [15, 16] (fun x z => Guess U V1 Y1 Y0 x z) (fun x _ => (intOf x).toNat)
    case atStart => 
      obtain ⟨g1, g2, g3⟩ := guess_start (v := V1) (y0 := Y0) (by omega) y1' v1 ST.out
      exact ⟨Q, R, rfl, rfl, g1, g2, g3⟩
    case round =>
      obtain ⟨k, r, rfl, rfl, g1, g2, g3⟩ := hrel
      have hY := RD.out.hY
      have hU' : U < Y1 * 4294967296 + Y0 := by omega
      have hQ : q = (U * 4294967296 + V1) / (Y1 * 4294967296 + Y0) := by rw [← hY]; exact HQ.out
      have kb := step_bd y1 (by omega) g1
      by_cases c1 : 4294967296 ≤ k
      · obtain ⟨l1, l2, l3⟩ := guess_low (v := V1) (by omega) hU' v1 g1 (.inl c1)
        have ek : (k : Int) - 1 = ((k - 1 : Nat) : Int) := by omega
        have HK := Lib.hid ek
        have HH := Lib.hid (And.intro hQ (And.intro hY hU'))
        have HL := Lib.hid (And.intro l1 l3)
        clear ek hQ hY hU' g1 g2 l1 l3
        have c1' : (4294967296 : Int) ≤ k := by omega
        have t1 : decide ((4294967296 : Int) ≤ k) = true := by simp; omega
        by_cases c3 : 4294967296 ≤ r + Y1
        · have t3 : decide ((4294967296 : Int) ≤ (r : Int) + Y1) = true := by simp; omega
          go_wp2
          go_meet
          exact ⟨val_u64 (by rw [HK.out, HH.out.1, guess_break (by omega) y0 HH.out.2.2 HL.out.2 HL.out.1 c3]), rfl⟩
        · have t3 : decide ((4294967296 : Int) ≤ (r : Int) + Y1) = false := by simp; omega
          go_wp2
          go_round
          case rel => exact ⟨k - 1, r + Y1, val_u64 HK.out, val_u64 (by omega), HL.out.2, HL.out.1, by omega⟩
          case measure => simp [intOf]; omega
      · have km := step_mul (k := k) (y0 := Y0) (by omega) y0
        obtain ⟨K, hK⟩ : ∃ K, K = k * Y0 := ⟨_, rfl⟩
        have eK : IntKind.u64.wrap ((k : Int) * (Y0 : Int)) = (K : Int) := by rw [hK, ← Int.natCast_mul]; exact wrap_nat km
        rw [← hK] at km
        have t1 : decide ((4294967296 : Int) ≤ k) = false := by simp; omega
        by_cases c2 : 4294967296 * r + V1 < K
        · have t2 : decide (4294967296 * (r : Int) + (V1 : Int) < (K : Int)) = true := by simp; omega
          obtain ⟨l1, l2, l3⟩ := guess_low (v := V1) (by omega) hU' v1 g1 (.inr (by rw [← hK]; exact c2))
          have ek : (k : Int) - 1 = ((k - 1 : Nat) : Int) := by omega
          have HK := Lib.hid ek
          have HH := Lib.hid (And.intro hQ (And.intro hY hU'))
          have HL := Lib.hid (And.intro l1 l3)
          clear ek hQ hY hU' g1 g2 l1 l3 hK
          by_cases c3 : 4294967296 ≤ r + Y1
          · have t3 : decide ((4294967296 : Int) ≤ (r : Int) + Y1) = true := by simp; omega
            go_wp2
            go_meet
            exact ⟨val_u64 (by rw [HK.out, HH.out.1, guess_break (by omega) y0 HH.out.2.2 HL.out.2 HL.out.1 c3]), rfl⟩
          · have t3 : decide ((4294967296 : Int) ≤ (r : Int) + Y1) = false := by simp; omega
            go_wp2
            go_round
            case rel => exact ⟨k - 1, r + Y1, val_u64 HK.out, val_u64 (by omega), HL.out.2, HL.out.1, by omega⟩
            case measure => simp [intOf]; omega
        · have t2 : decide (4294967296 * (r : Int) + (V1 : Int) < (K : Int)) = false := by simp; omega
          have HR := Lib.hid (guess_right (by omega) g1 g2 (by rw [← hK]; exact c2))
          have HH := Lib.hid hQ
          clear hQ hY hU' g1 g2 hK
          go_wp2
          go_meet
          exact ⟨val_u64 (by rw [HH.out, ← HR.out]), rfl⟩
  case rest =>
    obtain ⟨rfl, rfl⟩ := hcut
    obtain ⟨T, hT⟩ : ∃ T, T = (U * 4294967296 + V1) % Y := ⟨_, rfl⟩
    have hTY : T < Y := by rw [hT]; exact Nat.mod_lt _ (by omega)
    have eT : IntKind.u64.wrap (IntKind.u64.wrap (IntKind.u64.wrap ((U : Int) * 4294967296) + (V1 : Int)) - IntKind.u64.wrap ((q : Int) * (Y : Int))) = (T : Int) := by
      rw [HQ.out, hT]; exact step_rest v1 (by omega) hYn
    have HT := Lib.hid hT
    clear hT ST
    obtain ⟨Q2, M2, R2, st⟩ := step (u := T) (y1 := Y1) (by omega) (by omega)
    have eQ := st.eQ
    have eQ' := st.eQ'
    have eM := st.eM
    have eR := st.eR
    have ST := Lib.hid st
    clear st
    go_upto_block 2 with fail
    clear eT eQ eQ' eM eR
    obtain ⟨p, hp⟩ : ∃ p, p = (T * 4294967296 + V0) / Y := ⟨_, rfl⟩
    have HP := Lib.hid hp
    clear hp
    go_cut [16, 18] (fun s16 s18 wx => s18 = .int .u64 (p : Int) ∧ w1 = wx)
    case first =>
      go_wp2
      go_loop [18, 16] (fun x z => Guess T V0 Y1 Y0 x z) (fun x _ => (intOf x).toNat)
      case atStart => 
        obtain ⟨g1, g2, g3⟩ := guess_start (v := V0) (y0 := Y0) (by omega) y1' v0 ST.out
        exact ⟨Q2, R2, rfl, rfl, g1, g2, g3⟩
      case round =>
        obtain ⟨k, r, rfl, rfl, g1, g2, g3⟩ := hrel
        have hY := RD.out.hY
        have hT' : T < Y1 * 4294967296 + Y0 := by omega
        have hQ : p = (T * 4294967296 + V0) / (Y1 * 4294967296 + Y0) := by rw [← hY]; exact HP.out
        have kb := step_bd y1 (by omega) g1
        by_cases c1 : 4294967296 ≤ k
        · obtain ⟨l1, l2, l3⟩ := guess_low (v := V0) (by omega) hT' v0 g1 (.inl c1)
          have ek : (k : Int) - 1 = ((k - 1 : Nat) : Int) := by omega
          have HK := Lib.hid ek
          have HH := Lib.hid (And.intro hQ (And.intro hY hT'))
          have HL := Lib.hid (And.intro l1 l3)
          clear ek hQ hY hT' g1 g2 l1 l3
          have c1' : (4294967296 : Int) ≤ k := by omega
          have t1 : decide ((4294967296 : Int) ≤ k) = true := by simp; omega
          by_cases c3 : 4294967296 ≤ r + Y1
          · have t3 : decide ((4294967296 : Int) ≤ (r : Int) + Y1) = true := by simp; omega
            go_wp2
            go_meet
            exact ⟨val_u64 (by rw [HK.out, HH.out.1, guess_break (by omega) y0 HH.out.2.2 HL.out.2 HL.out.1 c3]), rfl⟩
          · have t3 : decide ((4294967296 : Int) ≤ (r : Int) + Y1) = false := by simp; omega
            go_wp2
            go_round
            case rel => exact ⟨k - 1, r + Y1, val_u64 HK.out, val_u64 (by omega), HL.out.2, HL.out.1, by omega⟩
            case measure => simp [intOf]; omega
        · have km := step_mul (k := k) (y0 := Y0) (by omega) y0
          obtain ⟨K, hK⟩ : ∃ K, K = k * Y0 := ⟨_, rfl⟩
          have eK : IntKind.u64.wrap ((k : Int) * (Y0 : Int)) = (K : Int) := by rw [hK, ← Int.natCast_mul]; exact wrap_nat km
          rw [← hK] at km
          have t1 : decide ((4294967296 : Int) ≤ k) = false := by simp; omega
          by_cases c2 : 4294967296 * r + V0 < K
          · have t2 : decide (4294967296 * (r : Int) + (V0 : Int) < (K : Int)) = true := by simp; omega
            obtain ⟨l1, l2, l3⟩ := guess_low (v := V0) (by omega) hT' v0 g1 (.inr (by rw [← hK]; exact c2))
            have ek : (k : Int) - 1 = ((k - 1 : Nat) : Int) := by omega
            have HK := Lib.hid ek
            have HH := Lib.hid (And.intro hQ (And.intro hY hT'))
            have HL := Lib.hid (And.intro l1 l3)
            clear ek hQ hY hT' g1 g2 l1 l3 hK
            by_cases c3 : 4294967296 ≤ r + Y1
            · have t3 : decide ((4294967296 : Int) ≤ (r : Int) + Y1) = true := by simp; omega
              go_wp2
              go_meet
              exact ⟨val_u64 (by rw [HK.out, HH.out.1, guess_break (by omega) y0 HH.out.2.2 HL.out.2 HL.out.1 c3]), rfl⟩
            · have t3 : decide ((4294967296 : Int) ≤ (r : Int) + Y1) = false := by simp; omega
              go_wp2
              go_round
              case rel => exact ⟨k - 1, r + Y1, val_u64 HK.out, val_u64 (by omega), HL.out.2, HL.out.1, by omega⟩
              case measure => simp [intOf]; omega
          · have t2 : decide (4294967296 * (r : Int) + (V0 : Int) < (K : Int)) = false := by simp; omega
            have HR := Lib.hid (guess_right (by omega) g1 g2 (by rw [← hK]; exact c2))
            have HH := Lib.hid hQ
            clear hQ hY hT' g1 g2 hK
            go_wp2
            go_meet
            exact ⟨val_u64 (by rw [HH.out, ← HR.out]), rfl⟩
    case rest =>
      obtain ⟨rfl, rfl⟩ := hcut
      have qb : q < 4294967296 := by rw [HQ.out]; exact step_lt hU v1
      have pb : p < 4294967296 := by rw [HP.out]; exact step_lt hTY v0
      obtain ⟨F, hF⟩ : ∃ F, F = (T * 4294967296 + V0) % Y := ⟨_, rfl⟩
      have hFY : F < Y := by rw [hF]; exact Nat.mod_lt _ (by omega)
      have eT : IntKind.u64.wrap (IntKind.u64.wrap (IntKind.u64.wrap ((T : Int) * 4294967296) + (V0 : Int)) - IntKind.u64.wrap ((p : Int) * (Y : Int))) = (F : Int) := by
        rw [HP.out, hF]; exact step_rest v0 (by omega) hYn
      have FIN : Hid ((q : Int) * 4294967296 + (p : Int) = (((h * 18446744073709551616 + l) / y : Nat) : Int) ∧ (F : Int) / 2 ^ s = (((h * 18446744073709551616 + l) % y : Nat) : Int)) := by
        show _ ∧ _
        rw [RD.out.quo, RD.out.rem, ← HT.out, ← hF, ← HQ.out, ← HP.out, pow_nat, ← Int.natCast_ediv]
        exact ⟨by omega, rfl⟩
      clear hF
      go_wp2
      go_ret2
      exact ⟨ret_two FIN.out.1 FIN.out.2, Grown.refl _⟩

set_option maxHeartbeats 400000 in
theorem div64_small (l y : Nat) (w : World) (hy : y < 9223372036854775808) (hy0 : 0 < y) (hl : l < 18446744073709551616) :
    Calls Try.prog 50 #[.int .u64 0, .int .u64 l, .int .u64 y] w fun e w' => e = .returned (.tuple #[.int .u64 ((l / y : Nat) : Int), .int .u64 ((l % y : Nat) : Int)]) ∧ Grown w w' := by
  have d1 : ((y : Int) == 0) = false := by simp; omega
  have d2 : decide ((y : Int) ≤ 0) = false := by simp; omega
  have z1 : ¬ (y : Int) = 0 := by omega
  have z2 : ¬ y = 0 := by omega
  have b1 : l / y < 18446744073709551616 := Nat.lt_of_le_of_lt (Nat.div_le_self _ _) hl
  go_enter Try.func50, Try.ntmps50
  go_wp2
  go_region
  go_wp2
  go_ret2
  exact ⟨ret_two (by first | rfl | (rw [← Int.natCast_ediv]; first | rfl | exact wrap_nat b1) | simp) (by first | rfl | simp), (Grown.refl _).drew⟩

theorem div64_any (h l y : Nat) (w : World) (hy : y < 9223372036854775808) (hh : h < y) (hl : l < 18446744073709551616) :
    Calls Try.prog 50 #[.int .u64 h, .int .u64 l, .int .u64 y] w fun e w' => e = .returned (.tuple #[.int .u64 (((h * 18446744073709551616 + l) / y : Nat) : Int), .int .u64 (((h * 18446744073709551616 + l) % y : Nat) : Int)]) ∧ Grown w w' := by
  rcases Nat.eq_zero_or_pos h with rfl | h0
  · have := div64_small l y w hy hh hl
    simpa using this
  · exact div64_big h l y w hy h0 hh hl

set_option maxHeartbeats 400000 in
theorem rem64_any (h l y : Nat) (w : World) (hy : y < 9223372036854775808) (hy0 : 0 < y) (hh : h < 18446744073709551616) (hl : l < 18446744073709551616) :
    Calls Try.prog 49 #[.int .u64 h, .int .u64 l, .int .u64 y] w fun e w' => e = .returned (.int .u64 (((h * 18446744073709551616 + l) % y : Nat) : Int)) ∧ Grown w w' := by
  have z1 : ¬ (y : Int) = 0 := by omega
  have z2 : ((y : Int) == 0) = false := by simp; omega
  have hm := Nat.mod_lt h hy0
  have e : (h % y * 18446744073709551616 + l) % y = (h * 18446744073709551616 + l) % y := by
    rw [Nat.add_mod, Nat.mul_mod, Nat.mod_mod, ← Nat.mul_mod, ← Nat.add_mod]
  obtain ⟨m, em'⟩ : ∃ m, m = h % y := ⟨_, rfl⟩
  have em : (h : Int) % (y : Int) = (m : Int) := by rw [em']; simp
  rw [← em'] at e hm
  have E := Lib.hid e
  clear e em'
  go_enter Try.func49, Try.ntmps49
  go_wp2_with fail
  refine (div64_any m l y _ hy hm hl).mono ?_
  rintro e w1 ⟨rfl, g1⟩
  go_wp2
  go_ret
  exact ⟨ret_int (by have := E.out; rw [← this]; simp), g1⟩
end Go.Proofs.Ytbimaaknjedonaa
