/- The heap: contracts of firstBelow, up. -/
import Derived.Test.YtkapejgokcpbiaaD6
namespace Go.Proofs.Ytkapejgokcpbiaa
open Go.RowKit Go.Lib
set_option linter.unusedVariables false

/-! ### a region that draws its order, whose operations only read and whose callees lay new blocks -/
structure GW (w : World) where
  W : World
  gr : Gr w W
theorem wp_region_gw {P : Program} {id : Nat} {Q : Exit → Act → World → Prop} {a : Act} {w : World} {l : List Oper} (hm : P.follows .mixedOrders = true) (hB : Region.lexB .any l.toArray = true)
    (h : wpQuiet P l.toArray (fun w' => ∃ p : GW w, w' = p.W) (fun a' => ∀ w', (∃ p : GW w, w' = p.W) → Q .normal a' w') l a) : (Code.region id l.toArray true).wp P Q a w :=
  wp_region_quiet (C := fun w' => ∃ p : GW w, w' = p.W) hm hB ⟨⟨w.drew, (Ke.refl _ w).drew⟩, rfl⟩ (by simpa using h)
theorem gw_cell {w : World} {a : Addr} {v : Value} (h : w.cell? a = some v) (p : GW w) : p.W.cell? a = some v := gcell p.gr h
theorem gw_of {P : Program} {f : FuncId} {args : Array Value} {w : World} {p : GW w} {v : Value} (h : Calls P f args p.W fun e w' => e = .returned v ∧ Gr p.W w') :
    Calls P f args p.W fun e w' => e = .returned v ∧ ∃ q : GW w, w' = q.W :=
  h.mono fun _ w' ⟨he, hg⟩ => ⟨he, ⟨w', p.gr.trans hg⟩, rfl⟩
theorem gw_self {w : World} (p : GW w) : ∃ q : GW w, p.W = q.W := ⟨p, rfl⟩

/-! ### the first of the two right below -/
/-- Where it stands; -1 where there is none. -/
def fb (k : Int) (T : Nat → En) (n s : Nat) : Int := if n ≤ 2 * s + 1 then -1 else if 2 * s + 2 < n ∧ ahead k (T (2 * s + 2)) (T (2 * s + 1)) = true then ((2 * s + 2 : Nat) : Int) else ((2 * s + 1 : Nat) : Int)
theorem par_children {s j : Nat} (h0 : 0 < j) (h : par j = s) : j = 2 * s + 1 ∨ j = 2 * s + 2 := by unfold par at h; omega
theorem fb_spec (k : Int) (T : Nat → En) (n s : Nat) : (fb k T n s = -1 ∧ n ≤ 2 * s + 1) ∨ ∃ c : Nat, fb k T n s = (c : Int) ∧ 0 < c ∧ c < n ∧ par c = s ∧ c ≠ s ∧ ∀ j, 0 < j → j < n → par j = s → j ≠ c → ahead k (T j) (T c) = false := by
  unfold fb
  split
  · exact .inl ⟨rfl, by assumption⟩
  · split
    · rename_i h1 h2
      refine .inr ⟨2 * s + 2, rfl, by omega, h2.1, by unfold par; omega, by omega, fun j h0 hj hp hne => ?_⟩
      rcases par_children h0 hp with e | e
      · rw [e]; exact ahead_asymm k _ _ h2.2
      · omega
    · rename_i h1 h2
      refine .inr ⟨2 * s + 1, rfl, by omega, by omega, by unfold par; omega, by omega, fun j h0 hj hp hne => ?_⟩
      rcases par_children h0 hp with e | e
      · omega
      · rw [e]
        cases q : ahead k (T (2 * s + 2)) (T (2 * s + 1))
        · rfl
        · exact absurd ⟨by omega, q⟩ h2

set_option maxHeartbeats 1000000 in
theorem fb_any (w : World) (base p : Nat) (k : Int) (v u : Value) (n : Nat) (T : Nat → En) (L : Nat) (S : Nat → Nat) (h : Mem w base p k v u n T L S) (s : Nat) (hs : s < n) :
    Calls Try.prog 48 #[.pointer (some ⟨p, 0, none⟩), .int .i64 s] w fun x w' => x = .returned (.int .i64 (fb k T n s)) ∧ Gr w w' := by
  obtain ⟨g, cap, rfl, bg, lg, nc, cm⟩ := h.tr.form (by omega)
  have c1 := h.c1
  have hn6 := h.n6
  have H := Lib.hid h
  by_cases h1 : n ≤ 2 * s + 1
  · have h1z : (n : Int) ≤ 2 * (s : Int) + 1 := by omega
    have hv : fb k T n s = -1 := by simp [fb, h1]
    rw [hv]
    clear h hv
    go_enter Try.func48, Try.ntmps48
    go_wp2
    go_ret
    exact ⟨rfl, Ke.refl _ _⟩
  · have h1z : ¬ (n : Int) ≤ 2 * (s : Int) + 1 := by omega
    obtain ⟨l, hl⟩ : ∃ l : Nat, l = 2 * s + 1 := ⟨_, rfl⟩
    obtain ⟨r, hr⟩ : ∃ r : Nat, r = 2 * s + 2 := ⟨_, rfl⟩
    have el : 2 * (s : Int) + 1 = (l : Int) := by omega
    have er : 2 * (s : Int) + 2 = (r : Int) := by omega
    have hln : ¬ (n : Int) ≤ (l : Int) := by omega
    have hln2 : (l : Int) < (n : Int) := by omega
    by_cases h2 : r < n
    · have h2z : (r : Int) < (n : Int) := by omega
      have d2 : decide ((r : Int) < (n : Int)) = true := by simp; omega
      obtain ⟨a, ha⟩ : ∃ a, ahead k (T r) (T l) = a := ⟨_, rfl⟩
      have hv : fb k T n s = if a then (r : Int) else (l : Int) := by
        unfold fb
        rw [if_neg h1, ← hl, ← hr, ha]
        cases a <;> simp [h2]
      rw [hv]
      have C := Lib.hid (fun W c => ahead_any p k (T r) (T l) W c)
      rw [ha] at C
      obtain ⟨t0, t1, t2, t3, t4⟩ := tree_cells h.tr r h2
      obtain ⟨u0, u1, u2, u3, u4⟩ := tree_cells h.tr l (by omega)
      generalize T r = x at C t0 t1 t2 t3 t4
      generalize T l = y at C u0 u1 u2 u3 u4
      obtain ⟨xs, xd, xb, xg, xi⟩ := x
      obtain ⟨ys, yd, yb, yg, yi⟩ := y
      simp only at C t0 t1 t2 t3 t4 u0 u1 u2 u3 u4
      have k0 := gw_cell h.c0
      have k1 := gw_cell c1
      have kt0 := gw_cell t0
      have kt1 := gw_cell t1
      have kt2 := gw_cell t2
      have kt3 := gw_cell t3
      have kt4 := gw_cell t4
      have ku0 := gw_cell u0
      have ku1 := gw_cell u1
      have ku2 := gw_cell u2
      have ku3 := gw_cell u3
      have ku4 := gw_cell u4
      clear h hv ha t0 t1 t2 t3 t4 u0 u1 u2 u3 u4 hl hr h1z
      go_enter Try.func48, Try.ntmps48
      go_wp2_with fail
      have hne : Nonempty (GW w) := ⟨⟨w, Ke.refl _ _⟩⟩
      have hself := @gw_self w
      have hself' : ∀ p : GW w, ∃ q : GW w, q.W = p.W := fun p => ⟨p, rfl⟩
      refine wp_region_gw (by kernel_rfl) (by kernel_rfl) ?_
      repeat (go_big_quiet_step (first | (go_at_call 49; exact gw_of (C.out _ (k0 _)))))
      refine wpQuiet_nil ?_
      intro _ hw'
      obtain ⟨pp, hw''⟩ := hw'
      subst hw''
      clear k0 k1 kt0 kt1 kt2 kt3 kt4 ku0 ku1 ku2 ku3 ku4 hself hself' hne
      cases a
      · go_wp2
        go_ret
        exact ⟨rfl, pp.gr⟩
      · go_wp2
        go_ret
        exact ⟨rfl, pp.gr⟩
    · have h2z : ¬ (r : Int) < (n : Int) := by omega
      have d2 : decide ((r : Int) < (n : Int)) = false := by simp; omega
      have hv : fb k T n s = (l : Int) := by
        unfold fb
        rw [if_neg h1, ← hl, ← hr]
        simp [h2]
      rw [hv]
      have k1 := gw_cell c1
      clear h hv hl hr h1z h2z
      go_enter Try.func48, Try.ntmps48
      go_wp2_with fail
      have hne : Nonempty (GW w) := ⟨⟨w, Ke.refl _ _⟩⟩
      have hself := @gw_self w
      have hself' : ∀ p : GW w, ∃ q : GW w, q.W = p.W := fun p => ⟨p, rfl⟩
      refine wp_region_gw (by kernel_rfl) (by kernel_rfl) ?_
      repeat (go_big_quiet_step (fail))
      refine wpQuiet_nil ?_
      intro _ hw'
      obtain ⟨pp, hw''⟩ := hw'
      subst hw''
      clear k1 hself hself' hne
      go_wp2
      go_ret
      exact ⟨rfl, pp.gr⟩
end Go.Proofs.Ytkapejgokcpbiaa
