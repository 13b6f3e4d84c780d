/- The passes of a stable sort: blocks of twenty, then blocks twice as long, and again. -/
import Derived.Test.YtpaiaoaffoeleaaW4
namespace Go.Proofs.Ytpaiaoaffoeleaa
open Go.Sort
set_option linter.unusedVariables false
set_option linter.unusedSectionVars false
variable {β : Type} [Inhabited β] {lt : β → β → Bool}

def Mul4 (s x : Nat) : Prop := ∃ j, x = j * s
theorem mul4_zero (s : Nat) : Mul4 s 0 := ⟨0, by omega⟩
theorem mul4_next {s x : Nat} (h : Mul4 s x) : Mul4 s (x + s) := by
  obtain ⟨j, rfl⟩ := h
  exact ⟨j + 1, by rw [Nat.add_mul]; omega⟩
theorem mul4_twice {s x : Nat} (h : Mul4 (2 * s) x) : Mul4 s x := by
  obtain ⟨j, rfl⟩ := h
  exact ⟨j * 2, by rw [Nat.mul_assoc]⟩
theorem mul4_same {s a x : Nat} (h : Mul4 s a) (k : Mul4 s x) (h1 : a ≤ x) (h2 : x < a + s) : x = a := by
  obtain ⟨i, rfl⟩ := h
  obtain ⟨j, rfl⟩ := k
  have : j < i + 1 := by
    rw [show i * s + s = (i + 1) * s by rw [Nat.add_mul]; omega] at h2
    exact Nat.lt_of_mul_lt_mul_right h2
  have : i ≤ j := by
    by_cases c : i ≤ j
    · exact c
    · have : (j + 1) * s ≤ i * s := Nat.mul_le_mul_right s (by omega)
      rw [Nat.add_mul] at this
      by_cases z : s = 0
      · subst z; omega
      · omega
  rw [show i = j by omega]
theorem mul4_lt {s a x : Nat} (h : Mul4 s a) (k : Mul4 s x) (h1 : x < a) : x + s ≤ a := by
  obtain ⟨i, rfl⟩ := h
  obtain ⟨j, rfl⟩ := k
  have := Nat.lt_of_mul_lt_mul_right h1
  have : (j + 1) * s ≤ i * s := Nat.mul_le_mul_right s (by omega)
  rw [Nat.add_mul] at this; omega

/-- While blocks of twenty are sorted. -/
structure InsInv (lt : β → β → Bool) (n a : Nat) (d0 d : Array (β × Nat)) : Prop where
  size : d.size = n
  perm : PermIn 0 n d0 d
  ma : Mul4 20 a
  le : a ≤ n
  done : ∀ x, Mul4 20 x → x < a → Blk lt x (min (x + 20) n) d
  rest : ∀ t, a ≤ t → t < n → d[t]!.2 = t
/-- All blocks of s are sorted, each by itself. -/
structure AllBlk (lt : β → β → Bool) (s n : Nat) (d0 d : Array (β × Nat)) : Prop where
  size : d.size = n
  perm : PermIn 0 n d0 d
  all : ∀ x, Mul4 s x → x < n → Blk lt x (min (x + s) n) d
/-- While two and two are merged. -/
structure PassInv (lt : β → β → Bool) (s n a : Nat) (d0 d : Array (β × Nat)) : Prop where
  size : d.size = n
  perm : PermIn 0 n d0 d
  ma : Mul4 (2 * s) a
  le : a ≤ n
  done : ∀ x, Mul4 (2 * s) x → x < a → Blk lt x (min (x + 2 * s) n) d
  rest : ∀ x, Mul4 s x → a ≤ x → x < n → Blk lt x (min (x + s) n) d

theorem InsInv.start {d : Array (β × Nat)} (h : ∀ t, t < d.size → d[t]!.2 = t) : InsInv lt d.size 0 d d :=
  ⟨rfl, permIn_refl _ _ _, mul4_zero _, Nat.zero_le _, fun x _ h => by omega, fun t _ => h t⟩

theorem InsInv.step {n a : Nat} {d0 d : Array (β × Nat)} (hS : SWO lt) (h : InsInv lt n a d0 d) (hn : a + 20 ≤ n) : InsInv lt n (a + 20) d0 (insertionSort (ltB lt) d a (a + 20)) := by
  have hz := h.size
  obtain ⟨p, b⟩ := ins_blk hS (a := a) (b := a + 20) (d := d) (by omega) (by omega) (fun t x y => h.rest t x (by omega))
  refine ⟨p.1.trans h.size, permIn_trans _ _ _ _ _ h.perm (permIn_mono _ _ a (a + 20) 0 n (by omega) hn (by omega) p), mul4_next h.ma, hn, fun x mx hx => ?_, fun t x y => ?_⟩
  · by_cases c : x < a
    · have := mul4_lt h.ma mx c
      exact (h.done x mx c).perm p (.inl (by omega))
    · have := mul4_same h.ma mx (by omega) hx
      subst this
      rwa [show min (x + 20) n = x + 20 by omega]
  · rw [p.2.1 t (.inr x)]; exact h.rest t (by omega) y

theorem InsInv.last {n a : Nat} {d0 d : Array (β × Nat)} (hS : SWO lt) (h : InsInv lt n a d0 d) (hn : n < a + 20) : AllBlk lt 20 n d0 (insertionSort (ltB lt) d a n) := by
  have hz := h.size
  have hl := h.le
  obtain ⟨p, b⟩ := ins_blk hS (a := a) (b := n) (d := d) h.le (by omega) (fun t x y => h.rest t x (by omega))
  refine ⟨p.1.trans h.size, permIn_trans _ _ _ _ _ h.perm (permIn_mono _ _ a n 0 n (by omega) (Nat.le_refl _) (by omega) p), fun x mx hx => ?_⟩
  by_cases c : x < a
  · have := mul4_lt h.ma mx c
    exact (h.done x mx c).perm p (.inl (by omega))
  · have := mul4_same h.ma mx (by omega) (by omega)
    subst this
    rwa [show min (x + 20) n = n by omega]

theorem PassInv.start {s n : Nat} {d0 d : Array (β × Nat)} (h : AllBlk lt s n d0 d) : PassInv lt s n 0 d0 d :=
  ⟨h.size, h.perm, mul4_zero _, Nat.zero_le _, fun x _ h => by omega, fun x mx _ hx => h.all x mx hx⟩

theorem PassInv.two {s n a : Nat} {d0 d : Array (β × Nat)} (hs : 0 < s) (h : PassInv lt s n a d0 d) (hn : a + s < n) : Blk lt a (a + s) d ∧ Blk lt (a + s) (min (a + 2 * s) n) d := by
  have m1 := mul4_twice h.ma
  have b1 := h.rest a m1 (Nat.le_refl _) (by omega)
  have b2 := h.rest (a + s) (mul4_next m1) (by omega) hn
  rw [show min (a + s) n = a + s by omega] at b1
  rw [show min (a + s + s) n = min (a + 2 * s) n by omega] at b2
  exact ⟨b1, b2⟩

theorem PassInv.step {s n a : Nat} {d0 d d' : Array (β × Nat)} (hs : 0 < s) (h : PassInv lt s n a d0 d) (hn : a + 2 * s ≤ n) (p : PermIn a (a + 2 * s) d d') (r : Ris (TT lt) a (a + 2 * s) d') : PassInv lt s n (a + 2 * s) d0 d' := by
  have hz := h.size
  obtain ⟨b1, b2⟩ := h.two hs (by omega)
  rw [show min (a + 2 * s) n = a + 2 * s by omega] at b2
  have b := b1.merged b2 (by omega) (by omega) (by omega) p r
  refine ⟨p.1.trans h.size, permIn_trans _ _ _ _ _ h.perm (permIn_mono _ _ a (a + 2 * s) 0 n (by omega) hn (by omega) p), mul4_next h.ma, hn, fun x mx hx => ?_, fun x mx x1 x2 => ?_⟩
  · by_cases c : x < a
    · have := mul4_lt h.ma mx c
      exact (h.done x mx c).perm p (.inl (by omega))
    · have := mul4_same h.ma mx (by omega) hx
      subst this
      rwa [show min (x + 2 * s) n = x + 2 * s by omega]
  · exact (h.rest x mx (by omega) x2).perm p (.inr (by omega))

theorem PassInv.last {s n a : Nat} {d0 d d' : Array (β × Nat)} (hs : 0 < s) (h : PassInv lt s n a d0 d) (hn : n < a + 2 * s) (ha : a + s < n) (p : PermIn a n d d') (r : Ris (TT lt) a n d') : AllBlk lt (2 * s) n d0 d' := by
  have hz := h.size
  obtain ⟨b1, b2⟩ := h.two hs ha
  rw [show min (a + 2 * s) n = n by omega] at b2
  have b := b1.merged b2 (by omega) (by omega) (by omega) p r
  refine ⟨p.1.trans h.size, permIn_trans _ _ _ _ _ h.perm (permIn_mono _ _ a n 0 n (by omega) (Nat.le_refl _) (by omega) p), fun x mx hx => ?_⟩
  by_cases c : x < a
  · have := mul4_lt h.ma mx c
    exact (h.done x mx c).perm p (.inl (by omega))
  · have := mul4_same h.ma mx (by omega) (by omega)
    subst this
    rwa [show min (x + 2 * s) n = n by omega]

theorem PassInv.none {s n a : Nat} {d0 d : Array (β × Nat)} (hs : 0 < s) (h : PassInv lt s n a d0 d) (hn : n < a + 2 * s) (ha : n ≤ a + s) : AllBlk lt (2 * s) n d0 d := by
  refine ⟨h.size, h.perm, fun x mx hx => ?_⟩
  by_cases c : x < a
  · exact h.done x mx c
  · have := mul4_same h.ma mx (by omega) (by omega)
    subst this
    have b := h.rest x (mul4_twice h.ma) (Nat.le_refl _) hx
    rw [show min (x + s) n = n by omega] at b
    rwa [show min (x + 2 * s) n = n by omega]

theorem AllBlk.end_ {s n : Nat} {d0 d : Array (β × Nat)} (h : AllBlk lt s n d0 d) (hn : n ≤ s) : PermIn 0 n d0 d ∧ Ris (TT lt) 0 n d := by
  refine ⟨h.perm, ?_⟩
  by_cases c : 0 < n
  · have b := (h.all 0 (mul4_zero _) c).ris
    rwa [show min (0 + s) n = n by omega] at b
  · intro i j _ _ hj; omega
end Go.Proofs.Ytpaiaoaffoeleaa
