/- MeterTurns walked. -/
import Derived.Test.YthglpaijeijbhaaE1
import Derived.Test.YthglpaijeijbhaaD1
namespace Go.Proofs.Ythglpaijeijbhaa
open Go.RowKit Go.Lib
set_option linter.unusedVariables false

/-- The counter of a number. -/
def ixF (a : Int) : Nat := ((a.tmod 5 + 5).tmod 5).toNat
theorem ixF_lt (a : Int) : ixF a < 5 := by
  unfold ixF
  have h1 := Int.tmod_lt_of_pos a (show (0 : Int) < 5 by omega)
  have h2 : -5 < a.tmod 5 := by
    have := Int.lt_tmod_of_pos a (show (0 : Int) < 5 by omega)
    omega
  rw [Int.tmod_eq_emod_of_nonneg (by omega)]
  omega
theorem ixF_is (a : Int) : (a.tmod 5 + 5).tmod 5 = (ixF a : Int) ∧ -4 ≤ a.tmod 5 ∧ a.tmod 5 ≤ 4 := by
  have h1 := Int.tmod_lt_of_pos a (show (0 : Int) < 5 by omega)
  have h2 : -5 < a.tmod 5 := by
    have := Int.lt_tmod_of_pos a (show (0 : Int) < 5 by omega)
    omega
  refine ⟨?_, by omega, by omega⟩
  unfold ixF
  rw [Int.tmod_eq_emod_of_nonneg (by omega)]
  omega

/-- What each counter is behind i pairs. -/
def S (q : Nat → Pk .i16) : Nat → Nat → Int
  | 0 => fun _ => 0
  | i + 1 => add1 (S q i) (ixF (q i).a) (S q i (ixF (q i).a) + (q i).b)
/-- The sum of i pairs. -/
def V (q : Nat → Pk .i16) : Nat → Int
  | 0 => 0
  | i + 1 => V q i + (q i).b
theorem psum_S (q : Nat → Pk .i16) : ∀ i, psum (S q i) 5 = V q i
  | 0 => by simp [psum5, S, V]
  | i + 1 => by
    show psum (add1 (S q i) (ixF (q i).a) (S q i (ixF (q i).a) + (q i).b)) 5 = V q i + (q i).b
    rw [psum_add1 _ (ixF_lt _), psum_S q i]
    omega
theorem S_bd (q : Nat → Pk .i16) : ∀ i j : Nat, -((i : Int) * 32768) ≤ S q i j ∧ S q i j ≤ (i : Int) * 32768
  | 0, j => by simp [S]
  | i + 1, j => by
    have b := wf_i16 (q i).hb
    have h1 := S_bd q i j
    have h2 := S_bd q i (ixF (q i).a)
    show -(((i + 1 : Nat) : Int) * 32768) ≤ add1 (S q i) (ixF (q i).a) (S q i (ixF (q i).a) + (q i).b) j ∧ add1 (S q i) (ixF (q i).a) (S q i (ixF (q i).a) + (q i).b) j ≤ ((i + 1 : Nat) : Int) * 32768
    unfold add1
    split <;> omega
theorem V_bd (q : Nat → Pk .i16) : ∀ i : Nat, -((i : Int) * 32768) ≤ V q i ∧ V q i ≤ (i : Int) * 32768
  | 0 => by simp [V]
  | i + 1 => by
    have b := wf_i16 (q i).hb
    have h1 := V_bd q i
    show -(((i + 1 : Nat) : Int) * 32768) ≤ V q i + (q i).b ∧ V q i + (q i).b ≤ ((i + 1 : Nat) : Int) * 32768
    omega
/-- What each counter is behind n pairs and i of them taken away. -/
def T (q : Nat → Pk .i16) (n i : Nat) : Nat → Int := fun j => S q n j - S q i j
theorem T_zero (q : Nat → Pk .i16) (n : Nat) : T q n 0 = S q n := by
  funext j
  simp [T, S]
theorem T_succ (q : Nat → Pk .i16) (n i : Nat) : add1 (T q n i) (ixF (q i).a) (T q n i (ixF (q i).a) + -(q i).b) = T q n (i + 1) := by
  funext j
  show add1 (T q n i) (ixF (q i).a) (T q n i (ixF (q i).a) + -(q i).b) j = S q n j - add1 (S q i) (ixF (q i).a) (S q i (ixF (q i).a) + (q i).b) j
  unfold add1 T
  split
  · next e => rw [e]; omega
  · rfl
theorem T_end (q : Nat → Pk .i16) (n j : Nat) : T q n n j = 0 := by simp [T]

/-- The first loop's Add. -/
theorem turn_add {w0 w : World} {p : Nat} {q : Nat → Pk .i16} {i : Nat} (h : MW w0 w p (S q i)) (hi : i ≤ 200) : ∀ x y : Int, x = (ixF (q i).a : Nat) → y = (q i).b → Calls Try.prog 10 #[.pointer (some ⟨p, 0, none⟩), .int .i64 x, .int .i64 y] w fun e w' => (∃ v, e = .returned v) ∧ Ke (fun j => j = p) w w' ∧ MW w0 w' p (S q (i + 1)) := by
  intro x y hx hy
  subst hy
  have b := wf_i16 (q i).hb
  have hb := S_bd q i (ixF (q i).a)
  refine (mw_add h (ixF_lt _) (n := (q i).b) (s := S q i (ixF (q i).a) + (q i).b) (wrap_fit (by omega) (by omega)) hx).mono ?_
  rintro e w' ⟨rfl, k, m⟩
  exact ⟨⟨_, rfl⟩, k, m⟩
/-- The second loop's Add. -/
theorem turn_sub {w0 w : World} {p : Nat} {q : Nat → Pk .i16} {n i : Nat} (h : MW w0 w p (T q n i)) (hi : i ≤ 200) (hn : n ≤ 200) : ∀ x y : Int, x = (ixF (q i).a : Nat) → y = -(q i).b → Calls Try.prog 10 #[.pointer (some ⟨p, 0, none⟩), .int .i64 x, .int .i64 y] w fun e w' => (∃ v, e = .returned v) ∧ Ke (fun j => j = p) w w' ∧ MW w0 w' p (T q n (i + 1)) := by
  intro x y hx hy
  subst hy
  have b := wf_i16 (q i).hb
  have hb : -20000000 ≤ T q n i (ixF (q i).a) ∧ T q n i (ixF (q i).a) ≤ 20000000 := by
    have h1 := S_bd q i (ixF (q i).a)
    have h2 := S_bd q n (ixF (q i).a)
    unfold T
    omega
  refine (mw_add h (ixF_lt _) (n := -(q i).b) (s := T q n i (ixF (q i).a) + -(q i).b) (wrap_fit (by omega) (by omega)) hx).mono ?_
  rintro e w' ⟨rfl, k, m⟩
  rw [T_succ] at m
  exact ⟨⟨_, rfl⟩, k, m⟩
end Go.Proofs.Ythglpaijeijbhaa
