/- Go's rotate, over any program that bears its body. -/
import Derived.Test.YtpaiaoaffoeleaaU4
import Derived.Lib.Hide
namespace Go.Proofs.Ytpaiaoaffoeleaa
open Go.Shelf Go.RowKit Go.Lib Go.Sort
set_option linter.unusedVariables false
variable {P : Program} {α : Type} [Inhabited α] {k : Nat} {enc : α → List Value}

/-- What rotate has still to do. -/
structure RotRel (a m b : Nat) (d dk : Array α) (i j : Nat) : Prop where
  i1 : 1 ≤ i
  j1 : 1 ≤ j
  ia : i ≤ m - a
  jb : j ≤ b - m
  size : dk.size = d.size
  perm : PermIn a b d dk
  at_ : ∀ t, rotv dk (m - i) m (m + j) t = rotv d a m b t

theorem RotRel.start {a m b : Nat} (d : Array α) (h1 : a < m) (h2 : m < b) : RotRel a m b d d (m - a) (b - m) :=
  ⟨by omega, by omega, Nat.le_refl _, Nat.le_refl _, rfl, permIn_refl _ _ _, fun t => by rw [show m - (m - a) = a by omega, show m + (b - m) = b by omega]⟩
theorem RotRel.more {a m b i j : Nat} {d dk : Array α} (h : RotRel a m b d dk i j) (hm : a < m) (hb : b ≤ d.size) (hij : j < i) : RotRel a m b d (swR dk (m - i) m j) (i - j) j := by
  have := h.i1; have := h.j1; have := h.ia; have := h.jb; have := h.size
  exact ⟨by omega, by omega, by omega, by omega, by rw [swR_size, h.size], permIn_trans _ _ _ _ _ h.perm (swR_perm _ _ _ _ _ (by omega) (by omega) _ (by omega) (by omega) (by omega)), fun t => by rw [rot_more dk m i j t (by omega) hij (by omega) (by omega), h.at_]⟩
theorem RotRel.less {a m b i j : Nat} {d dk : Array α} (h : RotRel a m b d dk i j) (hm : a < m) (hb : b ≤ d.size) (hij : i < j) : RotRel a m b d (swR dk (m - i) (m + j - i) i) i (j - i) := by
  have := h.i1; have := h.j1; have := h.ia; have := h.jb; have := h.size
  exact ⟨by omega, by omega, by omega, by omega, by rw [swR_size, h.size], permIn_trans _ _ _ _ _ h.perm (swR_perm _ _ _ _ _ (by omega) (by omega) _ (by omega) (by omega) (by omega)), fun t => by rw [rot_less dk m i j t (by omega) hij (by omega) (by omega), h.at_]⟩
theorem RotRel.stop {a m b i : Nat} {d dk : Array α} (h : RotRel a m b d dk i i) (hm : a < m) (hb : b ≤ d.size) : Rot a m b d (swR dk (m - i) m i) := by
  have := h.i1; have := h.j1; have := h.ia; have := h.jb; have := h.size
  exact ⟨by rw [swR_size, h.size], permIn_trans _ _ _ _ _ h.perm (swR_perm _ _ _ _ _ (by omega) (by omega) _ (by omega) (by omega) (by omega)), fun t => by rw [rot_same dk m i t (by omega) (by omega) (by omega), h.at_]⟩

set_option maxHeartbeats 4000000 in
set_option maxRecDepth 1000000 in
theorem rotate_any (L : Bear P k) (g : Nat) (cb : Array Value) (blk off cap a m b : Nat) (d0 d : Array α) (w0 w : World)
    (R : RowK enc k w0 blk off d0) (hs : d0.size = d.size) (S : SWK enc k w0 blk off d w) (ham : a < m) (hmb : m < b) (hb : b ≤ d.size) (hsz : d.size < 4611686018427387904) :
    Calls P 29 #[.slice (some ⟨blk, off, none⟩) d.size cap, .int .i64 a, .int .i64 m, .int .i64 b, .func (.func g) #[] cb] w fun e w' => e = .returned (.tuple #[]) ∧ ∃ d', Rot a m b d d' ∧ SWK enc k w0 blk off d' w' := by
  have mixed := L.mixed; have t0 := L.t0; have a0 := L.a0; have z0 := L.z0; have v0 := L.v0; have t3 := L.t3; have a3 := L.a3; have z3 := L.z3; have v3 := L.v3; have t4 := L.t4; have a4 := L.a4; have z4 := L.z4; have v4 := L.v4; have t34 := L.t34; have a34 := L.a34; have z34 := L.z34; have v34 := L.v34; have t46 := L.t46; have a46 := L.a46; have z46 := L.z46; have v46 := L.v46; have aE := L.aE; have zE := L.zE
  have e30 : ∀ args w, (callFunc 30 args).run P w = .ok (.enter 30 args) w := enters_of L.f30 (by kernel_rfl) rfl
  have FG := L.f29
  have S0 : Aside (SWK enc k w0 blk off d w) := S
  clear S
  go_enter FG, Try.ntmps29
  go_wp2
  go_loopg [10, 11] (b - a) (fun kx s10 s11 wr => ∃ (i j : Nat) (dk : Array α), s10 = .int .i64 i ∧ s11 = .int .i64 j ∧ i + j ≤ kx ∧ Aside (SWK enc k w0 blk off dk wr) ∧ Aside (RotRel a m b d dk i j))
  case atStart => exact ⟨m - a, b - m, d, by go_num, by go_num, by omega, S0, RotRel.start d ham hmb⟩
  case round =>
    clear S0
    obtain ⟨i, j, dk, rfl, rfl, hkx, S1, RR⟩ := hrel
    have i1 := RR.out.i1; have j1 := RR.out.j1; have ia := RR.out.ia; have jb := RR.out.jb
    have sz : dk.size = d.size := RR.out.size
    have SZ := Lib.hid sz
    rcases Nat.lt_trichotomy j i with hij | hij | hij
    · have hne : ((i : Int) != (j : Int)) = true := by simp; omega
      have hgt : (j : Int) < (i : Int) := by omega
      have c := swapRange_any (enc := enc) L g cb blk off cap (m - i) m j d0 dk w0 wr R (by omega) S1.out (by omega) (by omega) (by omega)
      rw [sz, show ((m - i : Nat) : Int) = (m : Int) - (i : Int) by omega] at c
      have C := Lib.hid c
      have R2 : Aside (RotRel a m b d (swR dk (m - i) m j) (i - j) j) := RR.out.more ham hb hij
      clear c sz RR S1
      go_wp2_with fail
      refine C.out.mono ?_
      rintro e w2 ⟨rfl, S2⟩
      have S3 : Aside (SWK enc k w0 blk off (swR dk (m - i) m j) w2) := S2
      clear S2 C
      go_wp2
      go_roundg (i + j - 1)
      case measure => omega
      case rel => exact ⟨i - j, j, _, by go_num, rfl, by omega, S3, R2⟩
    · subst hij
      have hne : ((j : Int) != (j : Int)) = false := by simp
      have c := swapRange_any (enc := enc) L g cb blk off cap (m - j) m j d0 dk w0 wr R (by omega) S1.out (by omega) (by omega) (by omega)
      rw [sz, show ((m - j : Nat) : Int) = (m : Int) - (j : Int) by omega] at c
      have C := Lib.hid c
      have R2 : Aside (Rot a m b d (swR dk (m - j) m j)) := RR.out.stop ham hb
      clear c sz RR S1
      go_wp2_with fail
      refine C.out.mono ?_
      rintro e w2 ⟨rfl, S2⟩
      have S3 : Aside (SWK enc k w0 blk off (swR dk (m - j) m j) w2) := S2
      clear S2 C
      go_wp2
      go_end0
      exact ⟨rfl, _, R2.out, S3.out⟩
    · have hne : ((i : Int) != (j : Int)) = true := by simp; omega
      have hgt : ¬ (j : Int) < (i : Int) := by omega
      have c := swapRange_any (enc := enc) L g cb blk off cap (m - i) (m + j - i) i d0 dk w0 wr R (by omega) S1.out (by omega) (by omega) (by omega)
      rw [sz, show ((m - i : Nat) : Int) = (m : Int) - (i : Int) by omega, show ((m + j - i : Nat) : Int) = (m : Int) + (j : Int) - (i : Int) by omega] at c
      have C := Lib.hid c
      have R2 : Aside (RotRel a m b d (swR dk (m - i) (m + j - i) i) i (j - i)) := RR.out.less ham hb hij
      clear c sz RR S1
      go_wp2_with fail
      refine C.out.mono ?_
      rintro e w2 ⟨rfl, S2⟩
      have S3 : Aside (SWK enc k w0 blk off (swR dk (m - i) (m + j - i) i) w2) := S2
      clear S2 C
      go_wp2
      go_roundg (i + j - 1)
      case measure => omega
      case rel => exact ⟨i, j - i, _, rfl, by go_num, by omega, S3, R2⟩

end Go.Proofs.Ytpaiaoaffoeleaa
