/- Two sorted rows merged: what is left at the ends. -/
import Derived.Test.YtpaiaoaffoeleaaT4
namespace Go.Proofs.Ytpaiaoaffoeleaa
open Go.Sort
set_option linter.unusedVariables false
variable {α : Type} [Inhabited α] {T : α → α → Prop} {lt : α → α → Bool}

theorem merge_left {a m b i : Nat} {d d' : Array α} (ht : ∀ x y z, T x y → T y z → T x z) (hm : m = a + 1) (hi : m ≤ i) (hib : i ≤ b) (hs : b ≤ d.size) (h1 : Ris T a m d) (h2 : Ris T m b d) (hc : Cross4 T lt a m b d)
    (q1 : m < i → T d[i - 1]! d[a]!) (q2 : i < b → T d[a]! d[i]!) (r : Rot a (a + 1) i d d') : PermIn a b d d' ∧ Ris T a b d' := by
  subst hm
  have P := parted (s := a) (e := i) ht h1 h2 hc (Nat.le_refl _) (by omega) hi hib (by omega) (fun _ h => q1 h) r
  have pm : PermIn a b d d' := permIn_mono _ _ a i a b (Nat.le_refl _) hib hs r.perm
  have e1 : a + (i - (a + 1)) = i - 1 := by omega
  rw [e1] at P
  have r2 : Ris T (i - 1) b d' := Ris.two ht P.l3 P.l4 (fun _ h => by
    rw [r.at_ (i - 1), r.at_ i, rotv_hi (by omega), rotv_out (by omega) (by omega), show i - 1 - (i - (a + 1)) = a by omega]
    exact q2 h)
  have := joined4 (d := d') (d1 := d') (d2 := d') (by omega) (by omega) (by rw [r.size]; exact hs) (permIn_refl _ _ _) (permIn_refl _ _ _) P.l2 r2 P.ah
  exact ⟨pm, this.2⟩

theorem merge_right {a m b i : Nat} {d d' : Array α} (ht : ∀ x y z, T x y → T y z → T x z) (hm : b = m + 1) (hi : a ≤ i) (him : i ≤ m) (hs : b ≤ d.size) (h1 : Ris T a m d) (h2 : Ris T m b d) (hc : Cross4 T lt a m b d)
    (q1 : a < i → T d[i - 1]! d[m]!) (q2 : i < m → T d[m]! d[i]!) (r : Rot i m (m + 1) d d') : PermIn a b d d' ∧ Ris T a b d' := by
  subst hm
  have P := parted (s := i) (e := m + 1) ht h1 h2 hc hi him (by omega) (Nat.le_refl _) (by omega) (fun h _ => by rw [show m + 1 - 1 = m by omega]; exact q2 h) r
  have pm : PermIn a (m + 1) d d' := permIn_mono _ _ i (m + 1) a (m + 1) hi (Nat.le_refl _) hs r.perm
  rw [show i + (m + 1 - m) = i + 1 by omega] at P
  have r1 : Ris T a (i + 1) d' := Ris.two ht P.l1 P.l2 (fun h _ => by
    rw [r.at_ (i - 1), r.at_ i, rotv_out (t := i - 1) (by omega) (by omega), rotv_lo (t := i) (by omega), show i + (m - i) = m by omega]
    exact q1 h)
  have := joined4 (d := d') (d1 := d') (d2 := d') (by omega) (by omega) (by rw [r.size]; exact hs) (permIn_refl _ _ _) (permIn_refl _ _ _) r1 P.l3 P.ah
  exact ⟨pm, this.2⟩

/-- The bounds between which the place where the rows are parted is looked for. -/
structure Cuts (a m b mid s0 r0 : Nat) : Prop where
  a0 : a ≤ s0
  sr : s0 ≤ r0
  rm : r0 ≤ m
  rmid : r0 ≤ mid
  mid1 : a < mid
  mid2 : mid < b
  sb : mid + m ≤ s0 + b
  e0 : s0 = a ∨ mid + m = s0 + b
  e1 : r0 = m ∨ r0 = mid

theorem cuts_hi {a m b mid : Nat} (h1 : a < mid) (h2 : mid < b) (hb : mid ≤ a + b - mid) (hb2 : a + b ≤ mid + mid + 1) (hm : mid < m) (hmb : m < b) : Cuts a m b mid (mid + m - b) mid := by
  constructor <;> omega
theorem cuts_lo {a m b mid : Nat} (h1 : a < mid) (h2 : mid < b) (hb : mid ≤ a + b - mid) (hm : m ≤ mid) (ham : a < m) : Cuts a m b mid a m := by
  constructor <;> omega

/-- Where the rows are parted, found. -/
theorem Cuts.parted {a m b mid s0 r0 s : Nat} {d d' : Array α} (C : Cuts a m b mid s0 r0) (ht : ∀ x y z, T x y → T y z → T x z) (h1 : Ris T a m d) (h2 : Ris T m b d) (hc : Cross4 T lt a m b d)
    (hs0 : s0 ≤ s) (hs1 : s ≤ r0) (q1 : s0 < s → T d[s - 1]! d[mid + m - s]!) (q2 : s < r0 → T d[mid + m - 1 - s]! d[s]!) (r : Rot s m (mid + m - s) d d') : Parted T lt a s mid (mid + m - s) b d' := by
  have c1 := C.a0; have c2 := C.sr; have c3 := C.rm; have c4 := C.rmid; have c5 := C.mid1; have c6 := C.mid2; have c7 := C.sb; have c8 := C.e0; have c9 := C.e1
  have P := Ytpaiaoaffoeleaa.parted (s := s) (e := mid + m - s) ht h1 h2 hc (by omega) (by omega) (by omega) (by omega)
    (fun x y => q1 (by omega)) (fun x y => by rw [show mid + m - s - 1 = mid + m - 1 - s by omega]; exact q2 (by omega)) r
  rw [show s + (mid + m - s - m) = mid by omega] at P
  exact P
end Go.Proofs.Ytpaiaoaffoeleaa
