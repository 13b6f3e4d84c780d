/- The law HeapDrops: what it holds in memory. -/
import Derived.Test.YtfbgjlfepnbcgaaS6
import Derived.Deep.RegionHeld3
namespace Go.Proofs.Ytfbgjlfepnbcgaa
open Go.RowKit Go.Lib
set_option linter.unusedVariables false

/-- The heap beside a row of bools: om is what the row says, on what is in the heap. -/
structure Dr (w0 w : World) (p : Nat) (F : Nat → Prop) (n : Nat) (M : Nat → Option Rk) (O N : Nat) (at_ : Nat → Int) (on om : Nat → Bool) : Prop where
  hl : Hl w0 w p 2 F n M
  ro : w.rowIs O 4 N (fun j => .bool (om j))
  nO : ¬ F O
  bO : w0.heap.size ≤ O
  mm : ∀ s, M s = if s < N ∧ on s = true then some ⟨at_ s, 0, 0, 5⟩ else none
section
variable {w0 w w' : World} {p : Nat} {F F' : Nat → Prop} {n n' : Nat} {M M' : Nat → Option Rk} {O N : Nat} {at_ : Nat → Int} {on om : Nat → Bool}
theorem Dr.gr (h : Dr w0 w p F n M O N at_ on om) (g : Gr w w') : Dr w0 w' p F n M O N at_ on om :=
  { h with hl := h.hl.gr g, ro := row_ke h.ro g (fun x => x) }
theorem Dr.gone (h : Dr w0 w p F n M O N at_ on om) (c : Nat) (a : Hl w0 w' p 2 F n' (upd M c none)) (v : Sv F F w w') : Dr w0 w' p F n' (upd M c none) O N at_ (upd on c false) om :=
  { hl := a, ro := row_ke h.ro v.ke h.nO, nO := h.nO, bO := h.bO, mm := fun s => by
      by_cases e : s = c
      · subst e; rw [upd_same, upd_same]; simp
      · rw [upd_other _ _ e, upd_other _ _ e]; exact h.mm s }
theorem Dr.come (h : Dr w0 w p F n M O N at_ on om) (c : Nat) (hc : c < N) (a : Hl w0 w' p 2 F' n' (upd M c (some ⟨at_ c, 0, 0, 5⟩))) (v : Sv F F' w w') : Dr w0 w' p F' n' (upd M c (some ⟨at_ c, 0, 0, 5⟩)) O N at_ (upd on c true) om :=
  { hl := a, ro := row_ke h.ro v.ke h.nO
    nO := fun q => by
      have := h.ro.lt
      rcases v.ft O q with e | e
      · exact h.nO e
      · omega
    bO := h.bO, mm := fun s => by
      by_cases e : s = c
      · subst e; rw [upd_same, upd_same]; simp [hc]
      · rw [upd_other _ _ e, upd_other _ _ e]; exact h.mm s }
theorem Dr.store (h : Dr w0 w p F n M O N at_ on om) (c : Nat) (x : Bool) : Dr w0 (w.setCell ⟨O, c, none⟩ (.bool x)) p F n M O N at_ on (upd om c x) := by
  have k1 : Ke (fun j => j = O) w (w.setCell ⟨O, c, none⟩ (.bool x)) := (Ke.refl (fun j => j = O) w).set (p := ⟨O, c, none⟩) (.inl rfl) _
  refine { hl := ⟨h.hl.st.ke k1 (fun j hj q => ?_), h.hl.below.trans (k1.below h.hl.below.size (fun j hj q => ?_))⟩, ro := ?_, nO := h.nO, bO := h.bO, mm := h.mm }
  · subst q; exact h.nO hj
  · have := h.bO; omega
  · exact (row_set h.ro c (.bool x)).congr (fun i _ => by unfold upd; split <;> rfl)
theorem Dr.first (h : Dr w0 w p F n M O N at_ on om) {c : Nat} (hc : c < N) (hon : on c = true) (hb : ∀ i, i < N → on i = true → i ≠ c → at_ c < at_ i ∨ (at_ c = at_ i ∧ c < i)) : First 2 M c ⟨at_ c, 0, 0, 5⟩ := by
  refine ⟨by rw [h.mm c]; simp [hc, hon], fun s' r' h' hne => ?_⟩
  rw [h.mm s'] at h'
  split at h'
  · rename_i q
    cases h'
    exact ahead_time (hb s' q.1 q.2 hne)
  · cases h'
theorem st_empty {base : Nat} {k : Int} (h : St w base p k F n M) (e : ∀ s, M s = none) : n = 0 := by
  obtain ⟨v, u, T, L, S, m, x, o, c, _⟩ := h
  rcases Nat.eq_zero_or_pos n with q | q
  · exact q
  · have := c.at_ q
    rw [e] at this; cases this
theorem st_some {base : Nat} {k : Int} (h : St w base p k F n M) {s : Nat} {r : Rk} (e : M s = some r) : ∃ m, n = m + 1 := by
  rcases Nat.eq_zero_or_pos n with q | q
  · subst q; rw [st_zero h s] at e; cases e
  · exact ⟨n - 1, by omega⟩
/-- Drop: it answers what the row says. -/
theorem Dr.drop (h : Dr w0 w p F n M O N at_ on on) (c : Nat) (hc : c < N) : Calls Try.prog 15 #[.pointer (some ⟨p, 0, none⟩), .int .i64 c] w fun e w' => e = .returned (.bool (on c)) ∧ w'.cell? ⟨O, c, none⟩ = some (.bool (on c)) ∧ w'.frozen? ⟨O, c, none⟩ = false ∧
    ∃ n' M', Dr w0 (w'.setCell ⟨O, c, none⟩ (.bool false)) p F n' M' O N at_ (upd on c false) (upd on c false) := by
  cases hon : on c
  · have hM : M c = none := by rw [h.mm c]; simp [hon]
    refine (hl_drop_none h.hl c (fun s hs => by
      have e : s = c := by omega
      rw [e]; exact hM)).mono ?_
    rintro e w' ⟨rfl, hw⟩
    obtain rfl := hw.symm
    refine ⟨rfl, by rw [h.ro.cell hc, hon], h.ro.frozen c, n, M, ?_⟩
    have := h.store c false
    refine { this with mm := fun s => ?_ }
    rw [h.mm s]
    by_cases e : s = c
    · subst e; rw [upd_same, hon]
    · rw [upd_other _ _ e]
  · have hM : M c = some ⟨at_ c, 0, 0, 5⟩ := by rw [h.mm c]; simp [hon, hc]
    obtain ⟨m, rfl⟩ := st_some h.hl.st hM
    refine (hl_drop h.hl c _ hM).mono ?_
    rintro e w' ⟨rfl, a, v⟩
    have d := h.gone c a v
    exact ⟨rfl, by rw [d.ro.cell hc, hon], d.ro.frozen c, m, _, d.store c false⟩
end
theorem bool_upto (i : Nat) : upd (fun j => decide (j < i)) i true = fun j => decide (j < i + 1) := by
  funext j
  unfold upd
  by_cases e : j = i
  · subst e; simp
  · simp only [e, if_false]
    have : j < i ↔ j < i + 1 := by omega
    simp [this]
end Go.Proofs.Ytfbgjlfepnbcgaa
