/- Go's stable sort walked, over any program that bears its bodies. -/
import Derived.Test.YtpaiaoaffoeleaaY5
import Derived.Test.YtpaiaoaffoeleaaN4
namespace Go.Proofs.Ytpaiaoaffoeleaa
open Go.Shelf Go.RowKit Go.Lib Go.Sort
set_option linter.unusedVariables false
variable {P : Program} {β : Type} [Inhabited β] {k : Nat} {enc : β × Nat → List Value}

/-- Sorted, alike ones as they stood: in memory. -/
def StabTo (lt : β → β → Bool) (enc : β × Nat → List Value) (k : Nat) (w0 : World) (blk off : Nat) (d : Array (β × Nat)) (w' : World) : Prop :=
  ∃ d', PermIn 0 d.size d d' ∧ Ris (TT lt) 0 d.size d' ∧ SWK enc k w0 blk off d' w'
def PassTo (lt : β → β → Bool) (enc : β × Nat → List Value) (k : Nat) (w0 : World) (blk off s n a : Nat) (d : Array (β × Nat)) (w' : World) : Prop :=
  ∃ d', PassInv lt s n a d d' ∧ SWK enc k w0 blk off d' w'
def AllTo (lt : β → β → Bool) (enc : β × Nat → List Value) (k : Nat) (w0 : World) (blk off s n : Nat) (d : Array (β × Nat)) (w' : World) : Prop :=
  ∃ d', AllBlk lt s n d d' ∧ SWK enc k w0 blk off d' w'

set_option maxHeartbeats 16000000 in
set_option maxRecDepth 1000000 in
theorem stable_any (L : Bear P k) (cf : β × Nat → β × Nat → Int) (lt : β → β → Bool) (hS : SWO lt) (hlt : ltOf cf = ltB lt) (g : Nat) (cb : Array Value) (blk off cap : Nat) (d : Array (β × Nat)) (w : World)
    (eg : ∀ args w, (callFunc g args).run P w = .ok (.enter g args) w) (hcmp : CmpLays P g cb enc k cf blk off d.size w) (R : RowK enc k w blk off d) (hsz : d.size ≤ 1000000) (ht : ∀ t, t < d.size → d[t]!.2 = t)
    (e27 : ∀ args w, (callFunc 27 args).run P w = .ok (.enter 27 args) w)
    (hins : ∀ a b (d' : Array (β × Nat)) (w' : World), d'.size = d.size → SWK enc k w blk off d' w' → a ≤ b → b ≤ d'.size → Calls P 27 #[.slice (some ⟨blk, off, none⟩) d'.size cap, .int .i64 a, .int .i64 b, .func (.func g) #[] cb] w' fun e w'' => e = .returned (.tuple #[]) ∧ SWK enc k w blk off (insertionSort (ltOf cf) d' a b) w'') :
    Calls P 26 #[.slice (some ⟨blk, off, none⟩) d.size cap, .int .i64 d.size, .func (.func g) #[] cb] w fun e w' => e = .returned (.tuple #[]) ∧ StabTo lt enc k w blk off d w' := by
  have mixed := L.mixed; have t0 := L.t0; have a0 := L.a0; have z0 := L.z0; have v0 := L.v0; have t3 := L.t3; have a3 := L.a3; have z3 := L.z3; have v3 := L.v3; have t4 := L.t4; have a4 := L.a4; have z4 := L.z4; have v4 := L.v4; have t34 := L.t34; have a34 := L.a34; have z34 := L.z34; have v34 := L.v34; have t46 := L.t46; have a46 := L.a46; have z46 := L.z46; have v46 := L.v46; have aE := L.aE; have zE := L.zE
  have e28 : ∀ args w, (callFunc 28 args).run P w = .ok (.enter 28 args) w := enters_of L.f28 (by kernel_rfl) rfl
  have FG := L.f26
  have HI : Aside _ := hins
  have SY : Aside _ := sym_all (enc := enc) L (TT lt) (tt_trans hS) cf g cb blk off cap d w eg hcmp R (by omega)
  have HL := Lib.hid hlt
  have S0 : Aside (SWK enc k w blk off d w) := SWK.start R.hH
  have I0 : Aside (InsInv lt d.size 0 d d) := InsInv.start ht
  clear hins hcmp hlt ht
  go_enter FG, Try.ntmps26
  go_wp2
  go_loopg [7, 8] d.size (fun kx s7 s8 wr => ∃ (a : Nat) (dk : Array (β × Nat)), s7 = .int .i64 a ∧ s8 = .int .i64 ((a : Int) + 20) ∧ a ≤ d.size ∧ d.size - a ≤ kx ∧ Aside (SWK enc k w blk off dk wr) ∧ Aside (InsInv lt d.size a d dk))
  case atStart => exact ⟨0, d, rfl, by first | rfl | go_num, by omega, by omega, S0, I0⟩
  case round =>
    clear S0 I0
    obtain ⟨a, dk, rfl, rfl, ha, hkx, S1, I1⟩ := hrel
    have sz : dk.size = d.size := I1.out.size
    have SZ := Lib.hid sz
    by_cases hle : a + 20 ≤ d.size
    · have hz : (a : Int) + 20 ≤ (d.size : Int) := by omega
      have c := HI.out a (a + 20) dk wr sz S1.out (by omega) (by omega)
      rw [sz, HL.out, show ((a + 20 : Nat) : Int) = (a : Int) + 20 by omega] at c
      have C := Lib.hid c
      have I2 : Aside (InsInv lt d.size (a + 20) d (insertionSort (ltB lt) dk a (a + 20))) := I1.out.step hS hle
      clear c sz S1 I1
      go_wp2_with fail
      refine C.out.mono ?_
      rintro e w2 ⟨rfl, s2⟩
      have S2 : Aside (SWK enc k w blk off (insertionSort (ltB lt) dk a (a + 20)) w2) := s2
      clear s2 C
      go_wp2
      go_roundg (d.size - (a + 20))
      case measure => omega
      case rel => exact ⟨a + 20, _, by go_num, by go_num, hle, Nat.le_refl _, S2, I2⟩
    · have hz : ¬ (a : Int) + 20 ≤ (d.size : Int) := by omega
      have c := HI.out a d.size dk wr sz S1.out ha (by omega)
      rw [sz, HL.out] at c
      have C := Lib.hid c
      have A1 : Aside (AllBlk lt 20 d.size d (insertionSort (ltB lt) dk a d.size)) := I1.out.last hS (by omega)
      clear c sz S1 I1
      go_wp2_with fail
      refine C.out.mono ?_
      rintro e w2 ⟨rfl, s2⟩
      have S2 : Aside (SWK enc k w blk off (insertionSort (ltB lt) dk a d.size) w2) := s2
      clear s2 C SZ
      generalize insertionSort (ltB lt) dk a d.size = d1 at A1 S2
      go_wp2
      go_loopg [6] d.size (fun kx s6 wr => ∃ (s : Nat) (dk : Array (β × Nat)), s6 = .int .i64 s ∧ 20 ≤ s ∧ d.size - s ≤ kx ∧ s ≤ 2000000 ∧ Aside (SWK enc k w blk off dk wr) ∧ Aside (AllBlk lt s d.size d dk))
      case atStart => exact ⟨20, d1, by first | rfl | go_num, by omega, by omega, by omega, S2, A1⟩
      case round =>
        clear S2 A1
        obtain ⟨s, dk, rfl, hs20, hkx2, hs2, S2, A2⟩ := hrel
        by_cases hlt : s < d.size
        · have hltz : (s : Int) < (d.size : Int) := by omega
          have P0 : Aside (PassInv lt s d.size 0 d dk) := PassInv.start A2.out
          clear A2
          go_wp2
          go_loopg [7, 8] d.size (fun ky s7 s8 wr => ∃ (a : Nat) (dk : Array (β × Nat)), s7 = .int .i64 a ∧ s8 = .int .i64 ((a : Int) + 2 * (s : Int)) ∧ a ≤ d.size ∧ d.size - a ≤ ky ∧ Aside (SWK enc k w blk off dk wr) ∧ Aside (PassInv lt s d.size a d dk))
          case atStart => exact ⟨0, dk, rfl, by first | rfl | go_num | (congr 1; omega), by omega, by omega, S2, P0⟩
          case round =>
            clear S2 P0
            obtain ⟨a, dk, rfl, rfl, ha, hky, S2, P0⟩ := hrel
            have sz : dk.size = d.size := P0.out.size
            by_cases hle : a + 2 * s ≤ d.size
            · have hz : (a : Int) + 2 * (s : Int) ≤ (d.size : Int) := by omega
              obtain ⟨b1, b2⟩ := P0.out.two (by omega) (by omega)
              rw [show min (a + 2 * s) d.size = a + 2 * s by omega] at b2
              have c := SY.out (2 * s + 1) a (a + s) (a + 2 * s) dk wr (by omega) sz.symm S2.out (by omega) (by omega) (by omega) b1.ris b2.ris (by rw [HL.out]; exact b1.cross b2)
              rw [sz, show ((a + s : Nat) : Int) = (a : Int) + (s : Int) by omega, show ((a + 2 * s : Nat) : Int) = (a : Int) + 2 * (s : Int) by omega] at c
              have C := Lib.hid c
              clear c sz S2 b1 b2
              go_wp2_with fail
              refine C.out.mono ?_
              rintro e w2 ⟨rfl, d2, p2, r2, s2⟩
              have S3 : Aside (SWK enc k w blk off d2 w2) := s2
              have P3 : Aside (PassInv lt s d.size (a + 2 * s) d d2) := P0.out.step (by omega) hle p2 r2
              clear s2 p2 r2 C P0
              go_wp2
              go_roundg (d.size - (a + 2 * s))
              case measure => omega
              case rel => exact ⟨a + 2 * s, d2, by first | go_num | (congr 1; omega), by first | go_num | (congr 1; omega), hle, Nat.le_refl _, S3, P3⟩
            · have hz : ¬ (a : Int) + 2 * (s : Int) ≤ (d.size : Int) := by omega
              by_cases hm : a + s < d.size
              · have hmz : (a : Int) + (s : Int) < (d.size : Int) := by omega
                obtain ⟨b1, b2⟩ := P0.out.two (by omega) (by omega)
                rw [show min (a + 2 * s) d.size = d.size by omega] at b2
                have c := SY.out (2 * s + 1) a (a + s) d.size dk wr (by omega) sz.symm S2.out (by omega) hm (by omega) b1.ris b2.ris (by rw [HL.out]; exact b1.cross b2)
                rw [sz, show ((a + s : Nat) : Int) = (a : Int) + (s : Int) by omega] at c
                have C := Lib.hid c
                clear c sz S2 b1 b2
                go_wp2_with fail
                refine C.out.mono ?_
                rintro e w2 ⟨rfl, d2, p2, r2, s2⟩
                have S3 : Aside (SWK enc k w blk off d2 w2) := s2
                have A3 : Aside (AllBlk lt (2 * s) d.size d d2) := P0.out.last (by omega) (by omega) hm p2 r2
                clear s2 p2 r2 C P0
                go_wp2
                go_roundg (d.size - 2 * s)
                case measure => omega
                case rel => exact ⟨2 * s, d2, by first | go_num | (congr 1; omega), by omega, Nat.le_refl _, by omega, S3, A3⟩
              · have hmz : ¬ (a : Int) + (s : Int) < (d.size : Int) := by omega
                have A3 : Aside (AllBlk lt (2 * s) d.size d dk) := P0.out.none (by omega) (by omega) (by omega)
                clear P0 sz
                go_wp2
                go_roundg (d.size - 2 * s)
                case measure => omega
                case rel => exact ⟨2 * s, dk, by first | go_num | (congr 1; omega), by omega, Nat.le_refl _, by omega, S2, A3⟩
        · have hltz : ¬ (s : Int) < (d.size : Int) := by omega
          go_wp2
          go_end0
          obtain ⟨f1, f2⟩ := A2.out.end_ (by omega)
          exact ⟨rfl, dk, f1, f2, S2.out⟩

end Go.Proofs.Ytpaiaoaffoeleaa
