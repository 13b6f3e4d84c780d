/- Contracts of package window: task, up, May, Heavy, Release, Deadline, Bit, Group: what each call answers; the world stays. -/
import Derived.Test.YtkapejgokcpbiaaRows
import Derived.Test.YtkapejgokcpbiaaWin
import Derived.WalkKit
import Derived.WalkSpells
import Derived.WalkLawsBesides
import Derived.Lib.Hide
import Derived.IntWalk
namespace Go.Proofs.Ytkapejgokcpbiaa
open Go.RowKit
set_option linter.unusedVariables false
theorem ret_int {k : IntKind} {a b : Int} (h : a = b) : Ending.returned (.int k a) = .returned (.int k b) := by rw [h]
theorem grown_trans {a b c : World} (h : Grown a b) (k : Grown b c) : Grown a c :=
  ⟨World.keptBut_trans h.1 k.1, fun x => (k.2.1 x).trans (h.2.1 x), Nat.le_trans h.2.2 k.2.2⟩
theorem ret_bool {a b : Bool} (h : a = b) : Ending.returned (.bool a) = .returned (.bool b) := by rw [h]

set_option maxHeartbeats 400000 in
theorem task_yes (e p : Int) (w : World) (h : Task e p) :
    Calls Try.prog 36 #[.int .i64 e, .int .i64 p] w fun x w' => x = .returned (.bool true) ∧ w = w' := by
  have h1 := h.e1; have h2 := h.ep; have h3 := h.pm
  clear h
  go_enter Try.func36, Try.ntmps36
  go_wp2
  go_ret
  exact ⟨rfl, rfl⟩

theorem not_task {e p : Int} (h : ¬ Task e p) : e < 1 ∨ (1 ≤ e ∧ p < e) ∨ (1 ≤ e ∧ e ≤ p ∧ 1048575 < p) := by
  rcases Int.lt_or_le e 1 with a | a
  · exact .inl a
  rcases Int.lt_or_le p e with b | b
  · exact .inr (.inl ⟨a, b⟩)
  rcases Int.lt_or_le 1048575 p with c | c
  · exact .inr (.inr ⟨a, b, c⟩)
  · exact absurd ⟨a, b, c⟩ h

set_option maxHeartbeats 400000 in
theorem task_no (e p : Int) (w : World) (h : ¬ Task e p) :
    Calls Try.prog 36 #[.int .i64 e, .int .i64 p] w fun x w' => x = .returned (.bool false) ∧ w = w' := by
  rcases not_task h with a | ⟨a, b⟩ | ⟨a, b, c⟩
  all_goals
    clear h
    go_enter Try.func36, Try.ntmps36
    go_wp2
    go_ret
    exact ⟨by first | rfl | exact ret_bool (by simp; omega), rfl⟩

set_option maxHeartbeats 400000 in
theorem wup_any (a b : Int) (w : World) (h0 : 0 ≤ a) (h1 : a ≤ 2000000000000) (h2 : 1 ≤ b) (h3 : b ≤ 2000000000000) :
    Calls Try.prog 37 #[.int .i64 a, .int .i64 b] w fun x w' => x = .returned (.int .i64 (cl a b)) ∧ w = w' := by
  go_enter Try.func37, Try.ntmps37
  go_wp2
  go_ret
  exact ⟨rfl, rfl⟩

set_option maxHeartbeats 400000 in
theorem may_yes (e p i : Int) (w : World) (h : Quan e p i) :
    Calls Try.prog 28 #[.int .i64 e, .int .i64 p, .int .i64 i] w fun x w' => x = .returned (.bool true) ∧ w = w' := by
  have h1 := h.i1; have h2 := h.ie
  go_enter Try.func28, Try.ntmps28
  go_wp2_with fail
  refine (task_yes _ _ _ h.toTask).mono ?_
  rintro e w1 ⟨rfl, rfl⟩
  go_wp2
  go_ret
  exact ⟨rfl, rfl⟩

set_option maxHeartbeats 400000 in
theorem may_no (e p i : Int) (w : World) (h : ¬ Quan e p i) :
    Calls Try.prog 28 #[.int .i64 e, .int .i64 p, .int .i64 i] w fun x w' => x = .returned (.bool false) ∧ w = w' := by
  by_cases ht : Task e p
  · have hi : i < 1 ∨ (1 ≤ i ∧ e < i) := by
      rcases Int.lt_or_le i 1 with a | a
      · exact .inl a
      rcases Int.lt_or_le e i with b | b
      · exact .inr ⟨a, b⟩
      · exact absurd ⟨ht, a, b⟩ h
    clear h
    rcases hi with a | ⟨a, b⟩
    all_goals
      go_enter Try.func28, Try.ntmps28
      go_wp2_with fail
      refine (task_yes _ _ _ ht).mono ?_
      rintro e w1 ⟨rfl, rfl⟩
      go_wp2
      go_ret
      exact ⟨by first | rfl | exact ret_bool (by simp; omega), rfl⟩
  · clear h
    go_enter Try.func28, Try.ntmps28
    go_wp2_with fail
    refine (task_no _ _ _ ht).mono ?_
    rintro e w1 ⟨rfl, rfl⟩
    go_wp2
    go_ret
    exact ⟨by first | rfl | exact ret_bool (by simp; omega), rfl⟩

set_option maxHeartbeats 400000 in
theorem heavy_yes (e p : Int) (w : World) (h : Task e p) (hh : p ≤ 2 * e) :
    Calls Try.prog 38 #[.int .i64 e, .int .i64 p] w fun x w' => x = .returned (.bool true) ∧ w = w' := by
  have h1 := h.e1; have h2 := h.ep; have h3 := h.pm
  go_enter Try.func38, Try.ntmps38
  go_wp2_with fail
  refine (task_yes _ _ _ h).mono ?_
  rintro e w1 ⟨rfl, rfl⟩
  go_wp2
  go_ret
  exact ⟨rfl, rfl⟩

set_option maxHeartbeats 400000 in
theorem heavy_no (e p : Int) (w : World) (h : ¬ Task e p ∨ (Task e p ∧ 2 * e < p)) :
    Calls Try.prog 38 #[.int .i64 e, .int .i64 p] w fun x w' => x = .returned (.bool false) ∧ w = w' := by
  rcases h with h | ⟨h, hh⟩
  · go_enter Try.func38, Try.ntmps38
    go_wp2_with fail
    refine (task_no _ _ _ h).mono ?_
    rintro e w1 ⟨rfl, rfl⟩
    go_wp2
    go_ret
    exact ⟨by first | rfl | exact ret_bool (by simp; omega), rfl⟩
  · have h1 := h.e1; have h2 := h.ep; have h3 := h.pm
    go_enter Try.func38, Try.ntmps38
    go_wp2_with fail
    refine (task_yes _ _ _ h).mono ?_
    rintro e w1 ⟨rfl, rfl⟩
    go_wp2
    go_ret
    exact ⟨by first | rfl | exact ret_bool (by simp; omega), rfl⟩

set_option maxHeartbeats 400000 in
theorem deadline_yes (e p i v : Int) (w : World) (h : Quan e p i) (hv : dl e p i = v) :
    Calls Try.prog 29 #[.int .i64 e, .int .i64 p, .int .i64 i] w fun x w' => x = .returned (.int .i64 v) ∧ w = w' := by
  have h1 := h.e1; have h2 := h.ep; have h3 := h.pm; have h4 := h.i1; have h5 := h.ie
  obtain ⟨b0, b1⟩ := ip_bd h
  have HV := Lib.hid hv
  clear hv
  go_enter Try.func29, Try.ntmps29
  go_wp2_with fail
  refine (may_yes _ _ _ _ h).mono ?_
  rintro e w1 ⟨rfl, rfl⟩
  go_wp2_with fail
  refine (wup_any _ _ _ b0 (by omega) h1 (by omega)).mono ?_
  rintro e w1 ⟨rfl, rfl⟩
  go_wp2
  go_ret
  exact ⟨ret_int HV.out, rfl⟩

set_option maxHeartbeats 400000 in
theorem deadline_no (e p i : Int) (w : World) (h : ¬ Quan e p i) :
    Calls Try.prog 29 #[.int .i64 e, .int .i64 p, .int .i64 i] w fun x w' => x = .returned (.int .i64 0) ∧ w = w' := by
  go_enter Try.func29, Try.ntmps29
  go_wp2_with fail
  refine (may_no _ _ _ _ h).mono ?_
  rintro e w1 ⟨rfl, rfl⟩
  go_wp2
  go_ret
  exact ⟨rfl, rfl⟩

set_option maxHeartbeats 400000 in
theorem bit_yes (e p i v : Int) (w : World) (h : Quan e p i) (hv : bt e p i = v) :
    Calls Try.prog 30 #[.int .i64 e, .int .i64 p, .int .i64 i] w fun x w' => x = .returned (.int .i64 v) ∧ w = w' := by
  have h1 := h.e1; have h2 := h.ep; have h3 := h.pm; have h4 := h.i1; have h5 := h.ie
  obtain ⟨b0, b1⟩ := ip_bd h
  by_cases c : i * p % e = 0
  · have hb : (i * p % e == 0) = true := by simpa using c
    have HV : Hid (0 = v) := by show _ = _; rw [← hv]; unfold bt; rw [if_pos c]
    clear hv c
    go_enter Try.func30, Try.ntmps30
    go_wp2_with fail
    refine (may_yes _ _ _ _ h).mono ?_
    rintro e w1 ⟨rfl, rfl⟩
    go_wp2
    go_ret
    exact ⟨ret_int HV.out, rfl⟩
  · have hb : (i * p % e == 0) = false := by simpa using c
    have HV : Hid (1 = v) := by show _ = _; rw [← hv]; unfold bt; rw [if_neg c]
    clear hv c
    go_enter Try.func30, Try.ntmps30
    go_wp2_with fail
    refine (may_yes _ _ _ _ h).mono ?_
    rintro e w1 ⟨rfl, rfl⟩
    go_wp2
    go_ret
    exact ⟨ret_int HV.out, rfl⟩

set_option maxHeartbeats 400000 in
theorem bit_no (e p i : Int) (w : World) (h : ¬ Quan e p i) :
    Calls Try.prog 30 #[.int .i64 e, .int .i64 p, .int .i64 i] w fun x w' => x = .returned (.int .i64 0) ∧ w = w' := by
  go_enter Try.func30, Try.ntmps30
  go_wp2_with fail
  refine (may_no _ _ _ _ h).mono ?_
  rintro e w1 ⟨rfl, rfl⟩
  go_wp2
  go_ret
  exact ⟨rfl, rfl⟩

set_option maxHeartbeats 400000 in
theorem group_yes (e p i v : Int) (w : World) (h : Quan e p i) (hh : p ≤ 2 * e) (hl : e < p) (hv : gp e p i = v) :
    Calls Try.prog 31 #[.int .i64 e, .int .i64 p, .int .i64 i] w fun x w' => x = .returned (.int .i64 v) ∧ w = w' := by
  have h1 := h.e1; have h2 := h.ep; have h3 := h.pm; have h4 := h.i1; have h5 := h.ie
  obtain ⟨d0, d1⟩ := dl_bd h
  obtain ⟨x0, x1⟩ := idle_bd h
  obtain ⟨m0, m1⟩ := mul_bd (a := dl e p i) (b := p - e) (c := 1048575) (d := 1048575) (by omega) (by omega) (by omega) (by omega)
  obtain ⟨n0, n1⟩ := mul_bd (a := dl e p i - i) (b := p) (c := 1048575) (d := 1048575) (by omega) (by omega) (by omega) (by omega)
  rw [← idle_eq h.toTask] at x0 x1 n0 n1
  have hne : (e == p) = false := by simp; omega
  have HV := Lib.hid hv
  clear hv
  go_enter Try.func31, Try.ntmps31
  go_wp2_with fail
  refine (may_yes _ _ _ _ h).mono ?_
  rintro e w1 ⟨rfl, rfl⟩
  go_wp2_with fail
  refine (heavy_yes _ _ _ h.toTask hh).mono ?_
  rintro e w1 ⟨rfl, rfl⟩
  go_wp2_with fail
  refine (deadline_yes _ _ _ _ _ h rfl).mono ?_
  rintro e w1 ⟨rfl, rfl⟩
  go_wp2_with fail
  refine (wup_any _ _ _ (by omega) (by omega) (by omega) (by omega)).mono ?_
  rintro e w1 ⟨rfl, rfl⟩
  go_wp2_with fail
  refine (wup_any _ _ _ (by omega) (by omega) (by omega) (by omega)).mono ?_
  rintro e w1 ⟨rfl, rfl⟩
  go_wp2
  go_ret
  exact ⟨ret_int HV.out, rfl⟩

set_option maxHeartbeats 400000 in
theorem group_no (e p i : Int) (w : World) (h : ¬ Quan e p i ∨ (Quan e p i ∧ (2 * e < p ∨ e = p))) :
    Calls Try.prog 31 #[.int .i64 e, .int .i64 p, .int .i64 i] w fun x w' => x = .returned (.int .i64 0) ∧ w = w' := by
  rcases h with h | ⟨h, hh | hh⟩
  · go_enter Try.func31, Try.ntmps31
    go_wp2_with fail
    refine (may_no _ _ _ _ h).mono ?_
    rintro e w1 ⟨rfl, rfl⟩
    go_wp2
    go_ret
    exact ⟨rfl, rfl⟩
  · go_enter Try.func31, Try.ntmps31
    go_wp2_with fail
    refine (may_yes _ _ _ _ h).mono ?_
    rintro e w1 ⟨rfl, rfl⟩
    go_wp2_with fail
    refine (heavy_no _ _ _ (.inr ⟨h.toTask, hh⟩)).mono ?_
    rintro e w1 ⟨rfl, rfl⟩
    go_wp2
    go_ret
    exact ⟨rfl, rfl⟩
  · subst hh
    have h1 := h.e1
    go_enter Try.func31, Try.ntmps31
    go_wp2_with fail
    refine (may_yes _ _ _ _ h).mono ?_
    rintro e w1 ⟨rfl, rfl⟩
    go_wp2_with fail
    refine (heavy_yes _ _ _ h.toTask (by omega)).mono ?_
    rintro e w1 ⟨rfl, rfl⟩
    go_wp2
    go_ret
    exact ⟨rfl, rfl⟩

end Go.Proofs.Ytkapejgokcpbiaa
