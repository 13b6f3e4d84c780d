/- The calendar: what it holds; contracts of New, Put, Next, Len. -/
import Derived.Test.YtlpjojegdnconaaDoorH8
namespace Go.Proofs.YtlpjojegdnconaaDoor.Ca
open Go.RowKit Go.Lib Go.Maps
set_option linter.unusedVariables false
set_option maxRecDepth 100000

/-- Whose a mark is. -/
def ownOf (M : Nat → Option Rk) : Nat → Option Int := fun m => (M m).map Rk.i
theorem ownOf_put (M : Nat → Option Rk) (m : Nat) (r : Rk) : ownOf (upd M m (some r)) = upd (ownOf M) m (some r.i) := by
  funext s
  unfold ownOf upd
  split <;> rfl
theorem ownOf_drop (M : Nat → Option Rk) (m : Nat) : ownOf (upd M m none) = upd (ownOf M) m none := by
  funext s
  unfold ownOf upd
  split <;> rfl
theorem ownOf_none : ownOf (fun _ => none) = fun _ => none := rfl
theorem ownOf_some {M : Nat → Option Rk} {m : Nat} {i : Int} (h : ownOf M m = some i) : ∃ r, M m = some r ∧ r.i = i := by
  unfold ownOf at h
  cases e : M m with
  | none => rw [e] at h; cases h
  | some r => rw [e] at h; cases h; exact ⟨r, rfl, rfl⟩

/-- The calendar at p; its blocks are F; at most c were put; the n entries are M. -/
def Cal (w : World) (base : Bs) (p c : Nat) (F : Nat → Prop) (n : Nat) (M : Nat → Option Rk) : Prop :=
  (Cal0 w base p c F (fun _ => none) ∧ n = 0 ∧ M = fun _ => none) ∨
  ∃ Fc F0 F1 g cap p0 p1 o, Cal3 w base p c Fc F0 F1 g cap p0 p1 (ownOf M) n M o ∧ IsTop n M o ∧ F = FootA Fc F0 F1 g

section
variable {w w' : World} {base : Bs} {p c : Nat} {F : Nat → Prop} {n : Nat} {M : Nat → Option Rk}
theorem Cal.self (h : Cal w base p c F n M) : F p := by
  rcases h with ⟨h, rfl, rfl⟩ | ⟨Fc, F0, F1, g, cap, p0, p1, o, h, t, rfl⟩
  · exact h.ch.self
  · exact .inl h.ch.self
theorem Cal.lt (h : Cal w base p c F n M) {k : Nat} (hk : F k) : base ≤ k ∧ k < w.heap.size := by
  rcases h with ⟨h, rfl, rfl⟩ | ⟨Fc, F0, F1, g, cap, p0, p1, o, h, t, rfl⟩
  · exact h.ch.lt hk
  · exact h.lt hk
theorem Cal.ke {G : Nat → Prop} (h : Cal w base p c F n M) (k : Ke G w w') (hG : ∀ j, F j → ¬ G j) : Cal w' base p c F n M := by
  rcases h with ⟨h, e1, e2⟩ | ⟨Fc, F0, F1, g, cap, p0, p1, o, h, t, rfl⟩
  · exact .inl ⟨h.ke k hG, e1, e2⟩
  · exact .inr ⟨Fc, F0, F1, g, cap, p0, p1, o, h.ke k hG, t, rfl⟩
theorem Cal.gr (h : Cal w base p c F n M) (k : Gr w w') : Cal w' base p c F n M := h.ke k (fun _ _ q => q)
theorem Cal.mark (h : Cal w base p c F n M) {m : Nat} {r : Rk} (hm : M m = some r) : 0 < m ∧ m ≤ c ∧ c ≤ 65536 ∧ (Lit.int .i64 r.i).wf = true := by
  rcases h with ⟨h, rfl, rfl⟩ | ⟨Fc, F0, F1, g, cap, p0, p1, o, h, t, rfl⟩
  · cases hm
  · exact h.ch.mark (i := r.i) (by unfold ownOf; rw [hm]; rfl)
theorem Cal.zero (h : Cal w base p c F 0 M) (m : Nat) : M m = none := by
  rcases h with ⟨h, _, rfl⟩ | ⟨Fc, F0, F1, g, cap, p0, p1, o, h, t, rfl⟩
  · rfl
  · exact st_zero h.s0 m
theorem Cal.first (h : Cal w base p c F n M) (hn : 0 < n) : ∃ s r, First 2 M s r := by
  rcases h with ⟨h, rfl, _⟩ | ⟨Fc, F0, F1, g, cap, p0, p1, o, h, t, rfl⟩
  · omega
  · obtain ⟨s, r, hf, _⟩ := st_first h.s0 hn
    exact ⟨s, r, hf⟩

/-- A calendar that was never used, in a block that holds more. -/
theorem cal_start (w : World) (base p : Nat) (hb : base ≤ p) (c0 : w.cell? ⟨p, 68, none⟩ = some (.map none)) (c1 : w.cell? ⟨p, 69, none⟩ = some (.slice none 0 0)) (c2 : w.cell? ⟨p, 70, none⟩ = some (.int .i64 0)) (c3 : w.cell? ⟨p, 71, none⟩ = some (.slice none 0 0)) (c4 : w.cell? ⟨p, 72, none⟩ = some (.pointer none)) (fz : ∀ o, w.frozen? ⟨p, o, none⟩ = false) :
    Cal w ⟨base, fun o => w.cell? ⟨p, o, none⟩⟩ p 0 (fun k => k = p) 0 (fun _ => none) :=
  .inl ⟨⟨.inl ⟨⟨hb, by omega, c0, c1, c2, fz, fun _ _ => rfl⟩, rfl, rfl⟩, c3, c4⟩, rfl, rfl⟩

/-- What Put leaves. -/
structure PtP (w : World) (base : Bs) (p c : Nat) (F : Nat → Prop) (n : Nat) (M : Nat → Option Rk) (t i : Int) (w' : World) : Prop where
  ex : ∃ F' m, M m = none ∧ Cal w' base p (c + 1) F' (n + 1) (upd M m (some ⟨t, 0, 0, i⟩)) ∧ Sv F F' w w'

/-- Behind reach: the calendar is used. -/
structure PtM (w : World) (base : Bs) (p c : Nat) (F : Nat → Prop) (own : Nat → Option Int) (n : Nat) (M : Nat → Option Rk) (w' : World) : Prop where
  ex : ∃ Fc F0 F1 g cap p0 p1 o, Cal3 w' base p c Fc F0 F1 g cap p0 p1 own n M o ∧ Sv F (FootA Fc F0 F1 g) w w'

theorem add_reach (h : Cal w base p c F n M) (hb : base ≤ w.heap.size) (hc : c + 1 ≤ 65535) (i : Int) (hi : (Lit.int .i64 i).wf = true) :
    Calls Tryd.prog 60 #[.pointer (some ⟨p, 68, none⟩), .int .i64 i] w fun e w' => ∃ m : Nat, e = .returned (.int .i64 m) ∧ m < 65536 ∧ M m = none ∧
      Calls Tryd.prog 62 #[.pointer (some ⟨p, 68, none⟩), .int .i64 0] w' fun e w'' => e = .returned (.tuple #[]) ∧ PtM w base p (c + 1) F (upd (ownOf M) m (some i)) n M w'' := by
  rcases h with ⟨h, rfl, rfl⟩ | ⟨Fc, F0, F1, g, cap, p0, p1, o, h, t, rfl⟩
  · refine (add_any w base p c F (fun _ => none) h.ch hb (by omega) i hi).mono ?_
    rintro e w' ⟨m, rfl, q⟩
    obtain ⟨F', us, sv⟩ := q.ex
    refine ⟨m, rfl, by have := q.lt; omega, rfl, ?_⟩
    have c0 : Cal0 w' base p (c + 1) F' (upd (fun _ => none) m (some i)) := ⟨.inr us, (q.rest 71 (by omega)).trans h.c3, (q.rest 72 (by omega)).trans h.c4⟩
    refine (reach_first c0 (Nat.le_trans hb sv.ke.size)).mono ?_
    rintro e w'' ⟨rfl, z⟩
    obtain ⟨F0, F1, g, cap, p0, p1, cal, sv2⟩ := z.ex
    exact ⟨rfl, ⟨F', F0, F1, g, cap, p0, p1, none, cal, sv.trans sv2⟩⟩
  · refine (add_any w base p c Fc (ownOf M) h.ch hb (by omega) i hi).mono ?_
    rintro e w' ⟨m, rfl, q⟩
    obtain ⟨F', us, sv⟩ := q.ex
    have c1 := h.stepC (.inr us) sv q.rest
    refine ⟨m, rfl, by have := q.lt; omega, ?_, ?_⟩
    · have := q.no
      unfold ownOf at this
      cases e : M m with
      | none => rfl
      | some r => rw [e] at this; cases this
    · refine (reach_used c1).mono ?_
      rintro e w'' ⟨rfl, hw⟩
      rw [hw]
      exact ⟨rfl, ⟨F', F0, F1, g, cap, p0, p1, o, c1, sv_C sv⟩⟩

theorem put_tail {own : Nat → Option Int} {W : World} {c' : Nat} {Fc F0 F1 : Nat → Prop} {g cap p0 p1 : Nat} {o : Option Rk} (h : Cal3 W base p c' Fc F0 F1 g cap p0 p1 own n M o) (t i : Int) (m : Nat) (h6 : m < 65536) (hM : M m = none) (ho : own = upd (ownOf M) m (some i)) :
    Calls Tryd.prog 63 #[.pointer (some ⟨p0, 0, none⟩), .int .i64 m, V ⟨t, 0, 0, i⟩] W fun e w' => e = .returned (.int .i64 0) ∧
      Calls Tryd.prog 64 #[.pointer (some ⟨p, 68, none⟩), .int .i64 0] w' fun e w'' => e = .returned (.tuple #[]) ∧ ∃ F', Cal w'' base p c' F' (n + 1) (upd M m (some ⟨t, 0, 0, i⟩)) ∧ Sv (FootA Fc F0 F1 g) F' W w'' := by
  refine (st_put_new h.s0 m h6 ⟨t, 0, 0, i⟩ hM).mono ?_
  rintro e w' ⟨rfl, F0', s', v⟩
  refine ⟨rfl, ?_⟩
  have c1 := h.step0 s' v
  refine (refresh_any c1).mono ?_
  rintro e w'' ⟨rfl, q⟩
  obtain ⟨F1', o', c2, t2, v2⟩ := q.ex
  refine ⟨rfl, _, .inr ⟨Fc, F0', F1', g, cap, p0, p1, o', ?_, t2, rfl⟩, (sv_0 v).trans (sv_1 v2)⟩
  rw [ownOf_put, ← ho]
  exact c2

set_option maxHeartbeats 1000000 in
theorem cal_put (h : Cal w base p c F n M) (hb : base ≤ w.heap.size) (hc : c + 1 ≤ 65535) (t i : Int) (hi : (Lit.int .i64 i).wf = true) :
    Calls Tryd.prog 53 #[.pointer (some ⟨p, 68, none⟩), .int .i64 t, .int .i64 i] w fun e w' => e = .returned (.tuple #[]) ∧ PtP w base p c F n M t i w' := by
  have A := Lib.hid (add_reach h hb hc i hi)
  clear h
  go_enter Tryd.func53, Tryd.ntmps53
  go_wp2_with fail
  refine A.out.mono ?_
  rintro e w1 ⟨m, rfl, h6, hM, R⟩
  have PL := Lib.hid (place_any w1 m h6)
  have RR := Lib.hid R
  have HM := Lib.hid hM
  clear A R hM
  go_wp2_with fail
  refine PL.out.mono ?_
  rintro e w2 ⟨rfl, hw⟩
  obtain rfl := hw.symm
  clear hw PL
  go_wp2_with fail
  refine RR.out.mono ?_
  rintro e w3 ⟨rfl, P3⟩
  obtain ⟨Fc, F0, F1, g, cap, p0, p1, o, c3, sv⟩ := P3.ex
  have T := Lib.hid (put_tail c3 t i m h6 HM.out rfl)
  have k3 := c3.c3
  have kg := c3.cg
  have SV := Lib.hid sv
  clear P3 c3 sv RR
  go_wp2_with fail
  refine T.out.mono ?_
  rintro e w4 ⟨rfl, T2⟩
  have TT := Lib.hid T2
  clear T T2 k3 kg
  go_wp2_with fail
  refine TT.out.mono ?_
  rintro e w5 ⟨rfl, F', c5, v5⟩
  have CC := Lib.hid c5
  have VV := Lib.hid v5
  clear TT c5 v5
  go_wp2_with fail
  go_end0
  exact ⟨rfl, ⟨F', m, HM.out, CC.out, SV.out.trans VV.out⟩⟩
end
end Go.Proofs.YtlpjojegdnconaaDoor.Ca
