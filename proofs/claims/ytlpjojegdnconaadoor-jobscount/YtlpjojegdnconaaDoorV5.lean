/- JobsCount, plain: the two tasks at each clock. -/
import Derived.Test.YtlpjojegdnconaaDoorV2
namespace Go.Proofs.YtlpjojegdnconaaDoor
open Go.RowKit Go.Lib Go.Maps
set_option linter.unusedVariables false

/-- The periodic task at clock n q + m. -/
def c1T (k n q m : Nat) : Tk := ⟨1, k, n, false, false, false, decide (m ≠ 0), if m = 0 then 0 else ((n * q : Nat) : Int), 0, false, if m = 0 then (q : Int) else (q : Int) + 1⟩
/-- The sporadic one: it is free from the clock fr on; it had mn jobs. -/
def c2T (k n c fr mn : Nat) : Tk := ⟨2, k, n, true, false, false, decide (c < fr), if c < fr then (fr : Int) - n else 0, 0, false, mn⟩
def cS (k n q m fr mn : Nat) : List Tk := [c1T k n q m, c2T k n (n * q + m) fr mn]
/-- The next clock. -/
def q' (n q m : Nat) : Nat := if m + 1 = n then q + 1 else q
def m' (n m : Nat) : Nat := if m + 1 = n then 0 else m + 1
theorem qm_next {n q m : Nat} (hm : m < n) : n * q' n q m + m' n m = n * q + m + 1 ∧ m' n m < n := by
  unfold q' m'
  by_cases h : m + 1 = n
  · rw [if_pos h, if_pos h, Nat.mul_succ]; omega
  · rw [if_neg h, if_neg h]; omega
/-- Released and settled: the periodic one. -/
theorem c1_step (k n q m : Nat) (hm : m < n) : dueT ((n * q + m : Nat) + 1 : Int) (if ready (c1T k n q m) then begT ((n * q + m : Nat) : Int) (c1T k n q m) else c1T k n q m) = decide (m + 1 = n) ∧
    (if dueT ((n * q + m : Nat) + 1 : Int) (if ready (c1T k n q m) then begT ((n * q + m : Nat) : Int) (c1T k n q m) else c1T k n q m) then endT (if ready (c1T k n q m) then begT ((n * q + m : Nat) : Int) (c1T k n q m) else c1T k n q m) else (if ready (c1T k n q m) then begT ((n * q + m : Nat) : Int) (c1T k n q m) else c1T k n q m)) = c1T k n (q' n q m) (m' n m) := by
  have e : (if ready (c1T k n q m) then begT ((n * q + m : Nat) : Int) (c1T k n q m) else c1T k n q m) = ⟨1, k, n, false, false, false, true, ((n * q : Nat) : Int), 0, false, (q : Int) + 1⟩ := by
    by_cases h : m = 0
    · subst h
      have hr : ready (c1T k n q 0) = true := by unfold ready c1T; simp
      rw [if_pos hr]
      unfold begT c1T
      simp
    · have hr : ready (c1T k n q m) = false := by unfold ready c1T; simp [h]
      rw [if_neg (by rw [hr]; simp)]
      unfold c1T
      simp [h]
  rw [e]
  have hd : dueT ((n * q + m : Nat) + 1 : Int) ⟨1, k, n, false, false, false, true, ((n * q : Nat) : Int), 0, false, (q : Int) + 1⟩ = decide (m + 1 = n) := by
    unfold dueT
    simp only [Bool.true_and]
    refine decide_eq_decide.2 ?_
    constructor <;> intro h <;> omega
  refine ⟨hd, ?_⟩
  rw [hd]
  unfold q' m'
  by_cases h : m + 1 = n
  · rw [if_pos (by simp [h]), if_pos h, if_pos h]
    unfold endT c1T
    simp
  · rw [if_neg (by simp [h]), if_neg h, if_neg h]
    unfold c1T
    simp
/-- .. the sporadic one. -/
theorem c2_step (k n c fr mn : Nat) (hn : 0 < n) : ready (c2T k n c fr mn) = false ∧ (if dueT ((c : Int) + 1) (c2T k n c fr mn) then endT (c2T k n c fr mn) else c2T k n c fr mn) = c2T k n (c + 1) fr mn := by
  have hr : ready (c2T k n c fr mn) = false := by unfold ready c2T; simp
  refine ⟨hr, ?_⟩
  by_cases h : c < fr
  · have e : c2T k n c fr mn = ⟨2, k, n, true, false, false, true, (fr : Int) - n, 0, false, mn⟩ := by unfold c2T; simp [h]
    rw [e]
    by_cases h2 : c + 1 < fr
    · have hd : dueT ((c : Int) + 1) ⟨2, k, n, true, false, false, true, (fr : Int) - n, 0, false, mn⟩ = false := by unfold dueT; simp; omega
      rw [if_neg (by rw [hd]; simp)]
      unfold c2T
      simp [h2]
    · have hd : dueT ((c : Int) + 1) ⟨2, k, n, true, false, false, true, (fr : Int) - n, 0, false, mn⟩ = true := by unfold dueT; simp; omega
      rw [if_pos hd]
      unfold endT c2T
      simp [h2]
  · have e : c2T k n c fr mn = ⟨2, k, n, true, false, false, false, 0, 0, false, mn⟩ := by unfold c2T; simp [h]
    have hd : dueT ((c : Int) + 1) (c2T k n c fr mn) = false := by rw [e]; rfl
    rw [if_neg (by rw [hd]; simp), e]
    unfold c2T
    simp [show ¬ c + 1 < fr by omega]
/-- .. when it was asked for. -/
theorem c2_ask (k n c fr mn : Nat) (hn : 0 < n) (h : fr ≤ c) : ready (waiT (c2T k n c fr mn)) = true ∧ (if dueT ((c : Int) + 1) (begT (c : Int) (waiT (c2T k n c fr mn))) then endT (begT (c : Int) (waiT (c2T k n c fr mn))) else begT (c : Int) (waiT (c2T k n c fr mn))) = c2T k n (c + 1) (c + n) (mn + 1) := by
  have e : c2T k n c fr mn = ⟨2, k, n, true, false, false, false, 0, 0, false, mn⟩ := by unfold c2T; simp [show ¬ c < fr by omega]
  refine ⟨by rw [e]; rfl, ?_⟩
  have e2 : begT (c : Int) (waiT (c2T k n c fr mn)) = ⟨2, k, n, true, false, false, true, c, 0, false, (mn : Int) + 1⟩ := by rw [e]; rfl
  rw [e2]
  by_cases h2 : n = 1
  · subst h2
    have hd : dueT ((c : Int) + 1) ⟨2, k, (1 : Nat), true, false, false, true, c, 0, false, (mn : Int) + 1⟩ = true := by unfold dueT; simp
    rw [if_pos hd]
    unfold endT c2T
    simp
  · have hd : dueT ((c : Int) + 1) ⟨2, k, n, true, false, false, true, c, 0, false, (mn : Int) + 1⟩ = false := by unfold dueT; simp; omega
    rw [if_neg (by rw [hd]; simp)]
    unfold c2T
    simp [show c + 1 < c + n by omega]
theorem le_two (k n q m c fr mn : Nat) (t : Int) (x : Tk) (hx : x = c1T k n q m ∨ x = c2T k n c fr mn ∨ x = waiT (c2T k n c fr mn)) : x.le = false := by
  rcases hx with rfl | rfl | rfl <;> rfl
theorem stl_two {x y : Tk} {t : Int} (hx : x.le = false) (hy : y.le = false) : stlT t [x, y] = [if dueT t x then endT x else x, if dueT t y then endT y else y] := by
  unfold stlT lgT
  simp [hx, hy]
theorem rel_le (t : Int) (x : Tk) : (if ready x then begT t x else x).le = x.le := by split <;> rfl
/-- A round of the law where none was asked for. -/
theorem cS_skip (k n q m fr mn : Nat) (hm : m < n) : stlT (((n * q + m : Nat) : Int) + 1) (relT ((n * q + m : Nat) : Int) (cS k n q m fr mn)) = cS k n (q' n q m) (m' n m) fr mn := by
  unfold cS relT
  simp only [List.map_cons, List.map_nil]
  rw [stl_two (by rw [rel_le]; rfl) (by rw [rel_le]; rfl), (c1_step k n q m hm).2, (c2_step k n (n * q + m) fr mn (by omega)).1]
  simp only [Bool.false_eq_true, if_false]
  rw [(c2_step k n (n * q + m) fr mn (by omega)).2, (qm_next hm).1]
theorem cS_ask (k n q m fr mn : Nat) (hm : m < n) (h : fr ≤ n * q + m) : arE (cS k n q m fr mn) 2 = 0 ∧ stlT (((n * q + m : Nat) : Int) + 1) (relT ((n * q + m : Nat) : Int) (arS (cS k n q m fr mn) 2)) = cS k n (q' n q m) (m' n m) (n * q + m + n) (mn + 1) := by
  have hg : getT (cS k n q m fr mn) 2 = some (c2T k n (n * q + m) fr mn) := by unfold cS getT; rfl
  have hac : (c2T k n (n * q + m) fr mn).ac = false := by unfold c2T; simp [show ¬ n * q + m < fr by omega]
  constructor
  · unfold arE; rw [hg]; simp [hac]; simp [c2T]
  · have e : arS (cS k n q m fr mn) 2 = [c1T k n q m, waiT (c2T k n (n * q + m) fr mn)] := by
      unfold arS; rw [hg]; simp [hac]; simp [c2T, cS, setT, waiT, c1T]
    rw [e]
    unfold relT
    simp only [List.map_cons, List.map_nil]
    rw [stl_two (by rw [rel_le]; rfl) (by rw [rel_le]; rfl), (c1_step k n q m hm).2, (c2_ask k n (n * q + m) fr mn (by omega) h).1]
    simp only [if_true]
    rw [(c2_ask k n (n * q + m) fr mn (by omega) h).2]
    unfold cS
    rw [(qm_next hm).1]
theorem cS_busy (k n q m fr mn : Nat) (hm : m < n) (h : n * q + m < fr) : arE (cS k n q m fr mn) 2 = 10 ∧ arS (cS k n q m fr mn) 2 = cS k n q m fr mn := by
  have hg : getT (cS k n q m fr mn) 2 = some (c2T k n (n * q + m) fr mn) := by unfold cS getT; rfl
  have hac : (c2T k n (n * q + m) fr mn).ac = true := by unfold c2T; simp [h]
  constructor
  · unfold arE; rw [hg]; simp [hac]; simp [c2T]
  · unfold arS; rw [hg]; simp [hac]
theorem rel_len2 (S : List Tk) (h : S.length = 2) (t : Int) : (relI S).length ≤ 2 := by
  unfold relI
  rw [List.length_map]
  have := List.length_filter_le ready S
  omega
theorem cS_len (k n q m fr mn : Nat) : (cS k n q m fr mn).length = 2 := rfl
/-- The count at the end. -/
theorem cS_count {n q m : Nat} (hm : m < n) : (n * q + m + n - 1) / n = if m = 0 then q else q + 1 := by
  by_cases h : m = 0
  · subst h
    rw [if_pos rfl]
    refine Nat.div_eq_of_lt_le ?_ ?_
    · rw [Nat.mul_comm q n]; omega
    · rw [Nat.succ_mul, Nat.mul_comm q n]; omega
  · rw [if_neg h]
    refine Nat.div_eq_of_lt_le ?_ ?_
    · rw [Nat.succ_mul, Nat.mul_comm q n]; omega
    · rw [Nat.succ_mul, Nat.succ_mul, Nat.mul_comm q n]; omega
end Go.Proofs.YtlpjojegdnconaaDoor
