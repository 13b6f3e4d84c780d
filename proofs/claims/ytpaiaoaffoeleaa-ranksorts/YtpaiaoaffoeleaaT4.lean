/- Plain mathematics of Go's stable sort: ranges exchanged, blocks rotated, two sorted rows merged in place. -/
import Derived.Sort.LotA
namespace Go.Proofs.Ytpaiaoaffoeleaa
open Go.Sort
set_option linter.unusedVariables false
variable {α : Type} [Inhabited α]

theorem swp_at (d : Array α) (i j t : Nat) (hi : i < d.size) (hj : j < d.size) : (swp d i j)[t]! = if t = j then d[i]! else if t = i then d[j]! else d[t]! := by
  by_cases h1 : t = j
  · subst h1; rw [if_pos rfl]; exact swp_right d i t hj
  · by_cases h2 : t = i
    · subst h2; rw [if_neg h1, if_pos rfl]; exact swp_left d t j hi h1
    · rw [if_neg h1, if_neg h2]; exact swp_other d i j t h2 h1

/-- n places from a and n places from b exchanged, one by one. -/
def swR (d : Array α) (a b : Nat) : Nat → Array α
  | 0 => d
  | n + 1 => swp (swR d a b n) (a + n) (b + n)

theorem swR_size (d : Array α) (a b n : Nat) : (swR d a b n).size = d.size := by
  induction n with
  | zero => rfl
  | succ n ih => rw [swR, size_swp, ih]

theorem swR_at (d : Array α) (a b : Nat) : ∀ n, a + n ≤ b → b + n ≤ d.size → ∀ t, (swR d a b n)[t]! = if a ≤ t ∧ t < a + n then d[t - a + b]! else if b ≤ t ∧ t < b + n then d[t - b + a]! else d[t]!
  | 0, _, _, t => by rw [swR, if_neg (by omega), if_neg (by omega)]
  | n + 1, h1, h2, t => by
    have ih := swR_at d a b n (by omega) (by omega)
    rw [swR, swp_at _ _ _ _ (by rw [swR_size]; omega) (by rw [swR_size]; omega)]
    by_cases e1 : t = b + n
    · subst e1
      rw [if_pos rfl, ih, if_neg (by omega), if_neg (by omega), if_neg (by omega), if_pos (by omega)]
      congr 1; omega
    · rw [if_neg e1]
      by_cases e2 : t = a + n
      · subst e2
        rw [if_pos rfl, ih, if_neg (by omega), if_neg (by omega), if_pos (by omega)]
        congr 1; omega
      · rw [if_neg e2, ih]
        by_cases e3 : a ≤ t ∧ t < a + n
        · rw [if_pos e3, if_pos (by omega)]
        · rw [if_neg e3, if_neg (show ¬ (a ≤ t ∧ t < a + (n + 1)) by omega)]
          by_cases e4 : b ≤ t ∧ t < b + n
          · rw [if_pos e4, if_pos (by omega)]
          · rw [if_neg e4, if_neg (by omega)]

theorem swR_perm (d : Array α) (a b lo hi : Nat) (hl : lo ≤ a) (hlb : lo ≤ b) : ∀ n, a + n ≤ hi → b + n ≤ hi → hi ≤ d.size → PermIn lo hi d (swR d a b n)
  | 0, _, _, _ => permIn_refl d lo hi
  | n + 1, h1, h2, h3 => permIn_trans _ _ _ _ _ (swR_perm d a b lo hi hl hlb n (by omega) (by omega) h3) (swp_permIn _ _ _ _ _ (by omega) (by omega) (by omega) (by omega) (by rw [swR_size]; exact h3))

/-- What stands at t when [a, m) and [m, b) have changed places. -/
def rotv (d : Array α) (a m b t : Nat) : α :=
  if a ≤ t ∧ t < a + (b - m) then d[t + (m - a)]! else if a + (b - m) ≤ t ∧ t < b then d[t - (b - m)]! else d[t]!

theorem rotv_lo {d : Array α} {a m b t : Nat} (h : a ≤ t ∧ t < a + (b - m)) : rotv d a m b t = d[t + (m - a)]! := by unfold rotv; rw [if_pos h]
theorem rotv_hi {d : Array α} {a m b t : Nat} (h : a + (b - m) ≤ t ∧ t < b) : rotv d a m b t = d[t - (b - m)]! := by unfold rotv; rw [if_neg (by omega), if_pos h]
theorem rotv_out {d : Array α} {a m b t : Nat} (h1 : ¬ (a ≤ t ∧ t < a + (b - m))) (h2 : ¬ (a + (b - m) ≤ t ∧ t < b)) : rotv d a m b t = d[t]! := by unfold rotv; rw [if_neg h1, if_neg h2]

/-- i behind m are more than j before it: the first j of them go to their place. -/
theorem rot_more (d : Array α) (m i j t : Nat) (hj : 1 ≤ j) (hij : j < i) (him : i ≤ m) (hs : m + j ≤ d.size) : rotv (swR d (m - i) m j) (m - (i - j)) m (m + j) t = rotv d (m - i) m (m + j) t := by
  have at' := swR_at d (m - i) m j (by omega) (by omega)
  by_cases c1 : m - i ≤ t ∧ t < m - i + j
  · rw [rotv_out (by omega) (by omega), rotv_lo (by omega), at', if_pos c1]; congr 1; omega
  · by_cases c2 : m - (i - j) ≤ t ∧ t < m - (i - j) + j
    · rw [rotv_lo (by omega), rotv_hi (by omega), at', if_neg (by omega)]
      by_cases c3 : m ≤ t + (m - (m - (i - j)))
      · rw [if_pos (by omega)]; congr 1; omega
      · rw [if_neg (by omega)]; congr 1; omega
    · by_cases c4 : m - (i - j) + j ≤ t ∧ t < m + j
      · rw [rotv_hi (by omega), rotv_hi (by omega), at', if_neg (by omega)]
        by_cases c3 : m ≤ t - (m + j - m)
        · rw [if_pos (by omega)]; congr 1; omega
        · rw [if_neg (by omega)]
      · rw [rotv_out (by omega) (by omega), rotv_out (by omega) (by omega), at', if_neg (by omega), if_neg (by omega)]

/-- .. are less: they go behind. -/
theorem rot_less (d : Array α) (m i j t : Nat) (hi : 1 ≤ i) (hij : i < j) (him : i ≤ m) (hs : m + j ≤ d.size) : rotv (swR d (m - i) (m + j - i) i) (m - i) m (m + (j - i)) t = rotv d (m - i) m (m + j) t := by
  have at' := swR_at d (m - i) (m + j - i) i (by omega) (by omega)
  by_cases c1 : m - i ≤ t ∧ t < m - i + (j - i)
  · rw [rotv_lo (by omega), rotv_lo (by omega), at', if_neg (by omega)]
    by_cases c3 : m + j - i ≤ t + (m - (m - i))
    · omega
    · rw [if_neg (by omega)]
  · by_cases c2 : m - i + (j - i) ≤ t ∧ t < m + (j - i)
    · rw [rotv_hi (by omega), at', if_pos (by omega)]
      rw [rotv_lo (by omega)]; congr 1; omega
    · by_cases c4 : m + j - i ≤ t ∧ t < m + j
      · rw [rotv_out (by omega) (by omega), rotv_hi (by omega), at', if_neg (by omega), if_pos (by omega)]; congr 1; omega
      · rw [rotv_out (by omega) (by omega), rotv_out (by omega) (by omega), at', if_neg (by omega), if_neg (by omega)]

/-- .. are as many. -/
theorem rot_same (d : Array α) (m i t : Nat) (hi : 1 ≤ i) (him : i ≤ m) (hs : m + i ≤ d.size) : (swR d (m - i) m i)[t]! = rotv d (m - i) m (m + i) t := by
  rw [swR_at d (m - i) m i (by omega) (by omega)]
  by_cases c1 : m - i ≤ t ∧ t < m - i + i
  · rw [if_pos c1, rotv_lo (by omega)]; congr 1; omega
  · rw [if_neg c1]
    by_cases c2 : m ≤ t ∧ t < m + i
    · rw [if_pos c2, rotv_hi (by omega)]; congr 1; omega
    · rw [if_neg c2, rotv_out (by omega) (by omega)]

/-- [a, m) and [m, b) have changed places. -/
structure Rot (a m b : Nat) (d d' : Array α) : Prop where
  size : d'.size = d.size
  perm : PermIn a b d d'
  at_ : ∀ t, d'[t]! = rotv d a m b t

/-- One rotated to the right over one more. -/
theorem rot_right {a c : Nat} {d d' : Array α} (hac : a ≤ c) (hs : c + 1 < d.size) (h : Rot a (a + 1) (c + 1) d d') : Rot a (a + 1) (c + 2) d (swp d' c (c + 1)) := by
  refine ⟨by rw [size_swp, h.size], permIn_trans _ _ _ _ _ (permIn_mono _ _ a (c + 1) a (c + 2) (Nat.le_refl _) (by omega) (by omega) h.perm) (swp_permIn _ _ _ _ _ hac (by omega) (by omega) (by omega) (by rw [h.size]; omega)), fun t => ?_⟩
  rw [swp_at _ _ _ _ (by rw [h.size]; omega) (by rw [h.size]; omega), h.at_, h.at_, h.at_]
  by_cases e1 : t = c + 1
  · subst e1
    rw [if_pos rfl, rotv_hi (by omega), rotv_hi (by omega)]; congr 1; omega
  · rw [if_neg e1]
    by_cases e2 : t = c
    · subst e2
      rw [if_pos rfl, rotv_out (by omega) (by omega), rotv_lo (by omega)]; congr 1; omega
    · rw [if_neg e2]
      by_cases e3 : a ≤ t ∧ t < c
      · rw [rotv_lo (by omega), rotv_lo (by omega)]
      · rw [rotv_out (by omega) (by omega), rotv_out (by omega) (by omega)]

theorem rot_right_none {a : Nat} {d : Array α} : Rot a (a + 1) (a + 1) d d := by
  refine ⟨rfl, permIn_refl _ _ _, fun t => ?_⟩
  by_cases e : t = a
  · subst e; rw [rotv_hi (by omega)]; congr 1; omega
  · rw [rotv_out (by omega) (by omega)]

/-- One rotated to the left over one more. -/
theorem rot_left {c m : Nat} {d d' : Array α} (hcm : c < m) (hs : m < d.size) (h : Rot (c + 1) m (m + 1) d d') : Rot c m (m + 1) d (swp d' (c + 1) c) := by
  refine ⟨by rw [size_swp, h.size], permIn_trans _ _ _ _ _ (permIn_mono _ _ (c + 1) (m + 1) c (m + 1) (by omega) (Nat.le_refl _) (by omega) h.perm) (swp_permIn _ _ _ _ _ (by omega) (by omega) (by omega) (by omega) (by rw [h.size]; omega)), fun t => ?_⟩
  rw [swp_at _ _ _ _ (by rw [h.size]; omega) (by rw [h.size]; omega), h.at_, h.at_, h.at_]
  by_cases e1 : t = c
  · subst e1
    rw [if_pos rfl, rotv_lo (by omega), rotv_lo (by omega)]; congr 1; omega
  · rw [if_neg e1]
    by_cases e2 : t = c + 1
    · subst e2
      rw [if_pos rfl, rotv_out (by omega) (by omega), rotv_hi (by omega)]; congr 1; omega
    · rw [if_neg e2]
      by_cases e3 : c + 1 ≤ t ∧ t < m + 1
      · rw [rotv_hi (by omega), rotv_hi (by omega)]
      · rw [rotv_out (by omega) (by omega), rotv_out (by omega) (by omega)]

theorem rot_left_none {m : Nat} {d : Array α} : Rot m m (m + 1) d d := by
  refine ⟨rfl, permIn_refl _ _ _, fun t => ?_⟩
  by_cases e : t = m
  · subst e; rw [rotv_lo (by omega)]; congr 1; omega
  · rw [rotv_out (by omega) (by omega)]

theorem rot_none {a m : Nat} {d : Array α} (h : a ≤ m) : Rot a m m d d := by
  refine ⟨rfl, permIn_refl _ _ _, fun t => ?_⟩
  by_cases e : a ≤ t ∧ t < m
  · rw [rotv_hi (by omega)]; congr 1; omega
  · rw [rotv_out (by omega) (by omega)]
theorem rot_none' {m b : Nat} {d : Array α} (h : m ≤ b) : Rot m m b d d := by
  refine ⟨rfl, permIn_refl _ _ _, fun t => ?_⟩
  by_cases e : m ≤ t ∧ t < b
  · rw [rotv_lo (by omega)]; congr 1; omega
  · rw [rotv_out (by omega) (by omega)]

/-! ### Two sorted rows merged -/
section
variable (T : α → α → Prop)
/-- Rising on [a, b). -/
def Ris (a b : Nat) (d : Array α) : Prop := ∀ i j, a ≤ i → i < j → j < b → T d[i]! d[j]!
/-- What 'less' says of one of [m, b) and one of [a, m), said in T. -/
def Cross4 (lt : α → α → Bool) (a m b : Nat) (d : Array α) : Prop := ∀ i j, a ≤ i → i < m → m ≤ j → j < b → (lt d[j]! d[i]! = true → T d[j]! d[i]!) ∧ (lt d[j]! d[i]! = false → T d[i]! d[j]!)
/-- All of [a, m) ahead of all of [m, b). -/
def Ahead4 (a m b : Nat) (d : Array α) : Prop := ∀ i j, a ≤ i → i < m → m ≤ j → j < b → T d[i]! d[j]!
end

variable {T : α → α → Prop} {lt : α → α → Bool}

theorem Ris.le {a b i j : Nat} {d : Array α} (h : Ris T a b d) (x : α) (ht : ∀ x y z, T x y → T y z → T x z) (hi : a ≤ i) (hij : i ≤ j) (hj : j < b) (hx : T d[j]! x) : T d[i]! x := by
  by_cases e : i = j
  · subst e; exact hx
  · exact ht _ _ _ (h i j hi (by omega) hj) hx
theorem Ris.ge {a b i j : Nat} {d : Array α} (h : Ris T a b d) (x : α) (ht : ∀ x y z, T x y → T y z → T x z) (hi : a ≤ i) (hij : i ≤ j) (hj : j < b) (hx : T x d[i]!) : T x d[j]! := by
  by_cases e : i = j
  · subst e; exact hx
  · exact ht _ _ _ hx (h i j hi (by omega) hj)

/-- Where both rows are parted so that what goes first is ahead of what goes last, rotated. -/
structure Parted (T : α → α → Prop) (lt : α → α → Bool) (a s mid e b : Nat) (d' : Array α) : Prop where
  l1 : Ris T a s d'
  l2 : Ris T s mid d'
  l3 : Ris T mid e d'
  l4 : Ris T e b d'
  c1 : Cross4 T lt a s mid d'
  c2 : Cross4 T lt mid e b d'
  ah : Ahead4 T a mid b d'

theorem parted {a m b s e : Nat} {d d' : Array α} (ht : ∀ x y z, T x y → T y z → T x z) (h1 : Ris T a m d) (h2 : Ris T m b d) (hc : Cross4 T lt a m b d) (hs : a ≤ s) (hsm : s ≤ m) (hme : m ≤ e) (heb : e ≤ b)
    (p1 : a < s → e < b → T d[s - 1]! d[e]!) (p2 : s < m → m < e → T d[e - 1]! d[s]!) (r : Rot s m e d d') : Parted T lt a s (s + (e - m)) e b d' := by
  have x1 : ∀ t, t < s → d'[t]! = d[t]! := fun t h => by rw [r.at_, rotv_out (by omega) (by omega)]
  have x2 : ∀ t, s ≤ t → t < s + (e - m) → d'[t]! = d[t + (m - s)]! := fun t h h' => by rw [r.at_, rotv_lo ⟨h, h'⟩]
  have x3 : ∀ t, s + (e - m) ≤ t → t < e → d'[t]! = d[t - (e - m)]! := fun t h h' => by rw [r.at_, rotv_hi ⟨h, h'⟩]
  have x4 : ∀ t, e ≤ t → d'[t]! = d[t]! := fun t h => by rw [r.at_, rotv_out (by omega) (by omega)]
  refine ⟨?_, ?_, ?_, ?_, ?_, ?_, ?_⟩
  · intro i j hi hij hj
    rw [x1 i (by omega), x1 j hj]; exact h1 i j hi hij (by omega)
  · intro i j hi hij hj
    rw [x2 i hi (by omega), x2 j (by omega) hj]; exact h2 _ _ (by omega) (by omega) (by omega)
  · intro i j hi hij hj
    rw [x3 i hi (by omega), x3 j (by omega) hj]; exact h1 _ _ (by omega) (by omega) (by omega)
  · intro i j hi hij hj
    rw [x4 i hi, x4 j (by omega)]; exact h2 i j (by omega) hij hj
  · intro i j hi hi' hj hj'
    rw [x1 i hi', x2 j hj hj']; exact hc _ _ hi (by omega) (by omega) (by omega)
  · intro i j hi hi' hj hj'
    rw [x3 i hi hi', x4 j hj]; exact hc _ _ (by omega) (by omega) (by omega) hj'
  · intro i j hi hi' hj hj'
    by_cases ei : i < s
    · rw [x1 i ei]
      by_cases ej : j < e
      · rw [x3 j hj ej]; exact h1 _ _ hi (by omega) (by omega)
      · rw [x4 j (by omega)]
        exact h1.le _ ht hi (show i ≤ s - 1 by omega) (by omega) (h2.ge _ ht (by omega) (show e ≤ j by omega) hj' (p1 (by omega) (by omega)))
    · rw [x2 i (by omega) hi']
      by_cases ej : j < e
      · rw [x3 j hj ej]
        exact h2.le _ ht (by omega) (show i + (m - s) ≤ e - 1 by omega) (by omega) (h1.ge _ ht (by omega) (show s ≤ j - (e - m) by omega) (by omega) (p2 (by omega) (by omega)))
      · rw [x4 j (by omega)]; exact h2 _ _ (by omega) (by omega) hj'

/-- Both halves sorted, each by itself: all is. -/
theorem joined4 {a mid b : Nat} {d d1 d2 : Array α} (ham : a ≤ mid) (hmb : mid ≤ b) (hs : b ≤ d.size) (p1 : PermIn a mid d d1) (p2 : PermIn mid b d1 d2) (h1 : Ris T a mid d1) (h2 : Ris T mid b d2) (ah : Ahead4 T a mid b d) : PermIn a b d d2 ∧ Ris T a b d2 := by
  have s1 := p1.1
  refine ⟨permIn_trans _ _ _ _ _ (permIn_mono _ _ a mid a b (Nat.le_refl _) hmb hs p1) (permIn_mono _ _ mid b a b ham (Nat.le_refl _) (by omega) p2), ?_⟩
  have a1 : ∀ i, a ≤ i → i < mid → ∀ j, mid ≤ j → j < b → T d1[i]! d[j]! := fun i hi hi' j hj hj' =>
    permIn_all d d1 a mid (fun x => T x d[j]!) (by omega) p1 (fun i hi hi' => ah i j hi hi' hj hj') i hi hi'
  have a2 : ∀ j, mid ≤ j → j < b → ∀ i, a ≤ i → i < mid → T d1[i]! d2[j]! := fun j hj hj' i hi hi' =>
    permIn_all d1 d2 mid b (fun x => T d1[i]! x) (by omega) p2 (fun j hj hj' => by rw [p1.2.1 j (.inr hj)]; exact a1 i hi hi' j hj hj') j hj hj'
  intro i j hi hij hj
  by_cases e1 : i < mid
  · rw [p2.2.1 i (.inl e1)]
    by_cases e2 : j < mid
    · rw [p2.2.1 j (.inl e2)]; exact h1 i j hi hij e2
    · exact a2 j (by omega) hj i hi e1
  · exact h2 i j (by omega) hij hj

theorem Ris.perm {a b : Nat} {x y : Nat} {d d' : Array α} (h : Ris T x y d) (p : PermIn a b d d') (hd : y ≤ a ∨ b ≤ x) : Ris T x y d' := by
  intro i j hi hij hj
  rw [p.2.1 i (by omega), p.2.1 j (by omega)]
  exact h i j hi hij hj
theorem Cross4.perm {a b : Nat} {x m y : Nat} {d d' : Array α} (h : Cross4 T lt x m y d) (p : PermIn a b d d') (hd : y ≤ a ∨ b ≤ x) : Cross4 T lt x m y d' := by
  intro i j hi hi' hj hj'
  rw [p.2.1 i (by omega), p.2.1 j (by omega)]
  exact h i j hi hi' hj hj'
theorem Ris.two {a m b : Nat} {d : Array α} (ht : ∀ x y z, T x y → T y z → T x z) (h1 : Ris T a m d) (h2 : Ris T m b d) (hx : a < m → m < b → T d[m - 1]! d[m]!) : Ris T a b d := by
  intro i j hi hij hj
  by_cases e1 : j < m
  · exact h1 i j hi hij e1
  · by_cases e2 : i < m
    · exact h1.le _ ht hi (show i ≤ m - 1 by omega) (by omega) (h2.ge _ ht (Nat.le_refl _) (show m ≤ j by omega) hj (hx (by omega) (by omega)))
    · exact h2 i j (by omega) hij hj
end Go.Proofs.Ytpaiaoaffoeleaa
