/- Contracts of the document's own answers (evenhandedref1: TaskMay, Window) and of awake. -/
import Derived.Test.YtkapejgokcpbiaaC1
import Derived.Deep.QuietTactic
import Derived.BigQuiet
namespace Go.Proofs.Ytkapejgokcpbiaa
open Go.RowKit
set_option linter.unusedVariables false

set_option maxHeartbeats 400000 in
theorem taskMay_yes (e p : Int) (w : World) (h : Task e p) :
    Calls Try.prog 18 #[.int .i64 e, .int .i64 p] w fun x w' => x = .returned (.bool true) ∧ w = w' := by
  have h1 := h.e1; have h2 := h.ep; have h3 := h.pm
  have h4 : 1 ≤ p := by omega
  clear h
  go_enter Try.func18, Try.ntmps18
  go_wp2
  go_ret
  exact ⟨rfl, rfl⟩

theorem not_task2 {e p : Int} (h : ¬ Task e p) : p < 1 ∨ (1 ≤ p ∧ 1048575 < p) ∨ (1 ≤ p ∧ p ≤ 1048575 ∧ e < 1) ∨ (1 ≤ p ∧ p ≤ 1048575 ∧ 1 ≤ e ∧ p < e) := by
  rcases Int.lt_or_le p 1 with a | a
  · exact .inl a
  rcases Int.lt_or_le 1048575 p with b | b
  · exact .inr (.inl ⟨a, b⟩)
  rcases Int.lt_or_le e 1 with c | c
  · exact .inr (.inr (.inl ⟨a, b, c⟩))
  rcases Int.lt_or_le p e with d | d
  · exact .inr (.inr (.inr ⟨a, b, c, d⟩))
  · exact absurd ⟨c, d, b⟩ h

set_option maxHeartbeats 400000 in
theorem taskMay_no (e p : Int) (w : World) (h : ¬ Task e p) :
    Calls Try.prog 18 #[.int .i64 e, .int .i64 p] w fun x w' => x = .returned (.bool false) ∧ w = w' := by
  rcases not_task2 h with a | ⟨a, b⟩ | ⟨a, b, c⟩ | ⟨a, b, c, d⟩
  all_goals
    clear h
    go_enter Try.func18, Try.ntmps18
    go_wp2
    go_ret
    exact ⟨by first | rfl | exact ret_bool (by simp; omega), rfl⟩

theorem grown_drewN {w w' : World} (h : Grown w w') (j : Nat) : Grown w (w'.drewN j) := h

/-- Four numbers answered. -/
def Four (a b c d : Int) : Ending := .returned (.tuple #[.int .i64 a, .int .i64 b, .int .i64 c, .int .i64 d])

set_option maxHeartbeats 400000 in
theorem window_no (e p i : Int) (w : World) (h : ¬ Quan e p i) :
    Calls Try.prog 19 #[.int .i64 e, .int .i64 p, .int .i64 i] w fun x w' => x = Four 0 0 0 0 ∧ w = w' := by
  by_cases ht : Task e p
  · have hi : i < 1 ∨ (1 ≤ i ∧ e < i) := by
      rcases Int.lt_or_le i 1 with a | a
      · exact .inl a
      rcases Int.lt_or_le e i with b | b
      · exact .inr ⟨a, b⟩
      · exact absurd ⟨ht, a, b⟩ h
    clear h
    rcases hi with a | ⟨a, b⟩
    all_goals
      go_enter Try.func19, Try.ntmps19
      go_wp2_with fail
      refine (taskMay_yes _ _ _ ht).mono ?_
      rintro e w1 ⟨rfl, rfl⟩
      go_wp2
      exact bodyPost_ret (v := .tuple #[.int .i64 0, .int .i64 0, .int .i64 0, .int .i64 0]) (by simp [results, Try.results19, go_sem]) rfl ⟨rfl, rfl⟩
  · clear h
    go_enter Try.func19, Try.ntmps19
    go_wp2_with fail
    refine (taskMay_no _ _ _ ht).mono ?_
    rintro e w1 ⟨rfl, rfl⟩
    go_wp2
    exact bodyPost_ret (v := .tuple #[.int .i64 0, .int .i64 0, .int .i64 0, .int .i64 0]) (by simp [results, Try.results19, go_sem]) rfl ⟨rfl, rfl⟩

set_option maxHeartbeats 400000 in
theorem window_flat (e p i : Int) (w : World) (h : Quan e p i) (hh : 2 * e < p ∨ (p ≤ 2 * e ∧ e = p)) :
    Calls Try.prog 19 #[.int .i64 e, .int .i64 p, .int .i64 i] w fun x w' => x = Four (rel e p i) (dl e p i) (bt e p i) 0 ∧ w = w' := by
  have h1 := h.e1; have h2 := h.ep; have h3 := h.pm; have h4 := h.i1; have h5 := h.ie
  obtain ⟨b0, b1⟩ := ip_bd h
  obtain ⟨b2, b3⟩ := jp_bd h
  have hd : (2 * e < p ∧ (e == p) = false) ∨ (p ≤ 2 * e ∧ (e == p) = true) := by
    rcases hh with a | ⟨a, b⟩
    · exact .inl ⟨a, by simp; omega⟩
    · exact .inr ⟨a, by simp; omega⟩
  clear hh
  by_cases c : i * p % e = 0
  · have hb : (i * p % e != 0) = false := by simpa using c
    have HV : Hid (bt e p i = 0) := by show _ = _; unfold bt; rw [if_pos c]
    clear c
    rcases hd with ⟨a, b⟩ | ⟨a, b⟩
    all_goals
      go_enter Try.func19, Try.ntmps19
      go_wp2_with fail
      refine (taskMay_yes _ _ _ h.toTask).mono ?_
      rintro e w1 ⟨rfl, rfl⟩
      go_wp2
      exact bodyPost_ret (v := .tuple #[.int .i64 (rel e p i), .int .i64 (dl e p i), .int .i64 0, .int .i64 0]) (by simp [results, Try.results19, go_sem, rel, dl, cl]) rfl ⟨by rw [HV.out]; rfl, rfl⟩
  · have hb : (i * p % e != 0) = true := by simpa using c
    have HV : Hid (bt e p i = 1) := by show _ = _; unfold bt; rw [if_neg c]
    clear c
    rcases hd with ⟨a, b⟩ | ⟨a, b⟩
    all_goals
      go_enter Try.func19, Try.ntmps19
      go_wp2_with fail
      refine (taskMay_yes _ _ _ h.toTask).mono ?_
      rintro e w1 ⟨rfl, rfl⟩
      go_wp2
      exact bodyPost_ret (v := .tuple #[.int .i64 (rel e p i), .int .i64 (dl e p i), .int .i64 1, .int .i64 0]) (by simp [results, Try.results19, go_sem, rel, dl, cl]) rfl ⟨by rw [HV.out]; rfl, rfl⟩

set_option maxHeartbeats 800000 in
theorem window_heavy (e p i : Int) (w : World) (h : Quan e p i) (hh : p ≤ 2 * e) (hl : e < p) :
    Calls Try.prog 19 #[.int .i64 e, .int .i64 p, .int .i64 i] w fun x w' => x = Four (rel e p i) (dl e p i) (bt e p i) (gp e p i) ∧ ∃ j, w' = w.drewN j := by
  have h1 := h.e1; have h2 := h.ep; have h3 := h.pm; have h4 := h.i1; have h5 := h.ie
  obtain ⟨b0, b1⟩ := ip_bd h
  obtain ⟨b2, b3⟩ := jp_bd h
  obtain ⟨d0, d1⟩ := dl_bd h
  obtain ⟨x0, x1⟩ := idle_bd h
  obtain ⟨m0, m1⟩ := mul_bd (a := dl e p i) (b := p - e) (c := 1048575) (d := 1048575) (by omega) (by omega) (by omega) (by omega)
  obtain ⟨n0, n1⟩ := mul_bd (a := dl e p i - i) (b := p) (c := 1048575) (d := 1048575) (by omega) (by omega) (by omega) (by omega)
  rw [← idle_eq h.toTask] at x0 x1 n0 n1
  have hne : (e == p) = false := by simp; omega
  have e1 : (i * p + e - 1) / e = dl e p i := rfl
  have e2 : (i - 1) * p / e = rel e p i := rfl
  obtain ⟨y, hy⟩ : ∃ y, cl (dl e p i * (p - e)) p = y := ⟨_, rfl⟩
  have e3 : (dl e p i * (p - e) + p - 1) / p = y := hy
  obtain ⟨g, hg⟩ : ∃ g, gp e p i = g := ⟨_, rfl⟩
  have e4 : (y * p + (p - e) - 1) / (p - e) = g := by rw [← hg]; unfold gp; rw [hy]; rfl
  rw [hy] at x0 x1 n0 n1
  have k1 : IntKind.i64.wrap (y * p) = y * p := IntWalk.i64_in _ (by omega)
  have k2 : IntKind.i64.wrap (p - e) = p - e := IntWalk.i64_in _ (by omega)
  have k3 : IntKind.i64.wrap (y * p + (p - e)) = y * p + (p - e) := IntWalk.i64_in _ (by omega)
  have k4 : IntKind.i64.wrap (y * p + (p - e) - 1) = y * p + (p - e) - 1 := IntWalk.i64_in _ (by omega)
  have HG := Lib.hid hg
  clear hg hy
  by_cases c : i * p % e = 0
  · have hb : (i * p % e != 0) = false := by simpa using c
    have HV : Hid (bt e p i = 0) := by show _ = _; unfold bt; rw [if_pos c]
    clear c
    go_enter Try.func19, Try.ntmps19
    go_wp2_with fail
    refine (taskMay_yes _ _ _ h.toTask).mono ?_
    rintro e w1 ⟨rfl, rfl⟩
    go_wp2
    go_quiet (fail)
    go_wp2
    exact bodyPost_ret (v := .tuple #[.int .i64 (rel e p i), .int .i64 (dl e p i), .int .i64 0, .int .i64 g]) (by simp [results, Try.results19, go_sem, e4]) rfl ⟨by rw [HV.out, HG.out]; rfl, _, rfl⟩
  · have hb : (i * p % e != 0) = true := by simpa using c
    have HV : Hid (bt e p i = 1) := by show _ = _; unfold bt; rw [if_neg c]
    clear c
    go_enter Try.func19, Try.ntmps19
    go_wp2_with fail
    refine (taskMay_yes _ _ _ h.toTask).mono ?_
    rintro e w1 ⟨rfl, rfl⟩
    go_wp2
    go_quiet (fail)
    go_wp2
    exact bodyPost_ret (v := .tuple #[.int .i64 (rel e p i), .int .i64 (dl e p i), .int .i64 1, .int .i64 g]) (by simp [results, Try.results19, go_sem, e4]) rfl ⟨by rw [HV.out, HG.out]; rfl, _, rfl⟩

end Go.Proofs.Ytkapejgokcpbiaa
