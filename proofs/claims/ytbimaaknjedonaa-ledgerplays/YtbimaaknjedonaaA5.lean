/- The ledger: the total if one more joins (with); Can. -/
import Derived.Test.YtbimaaknjedonaaA4
import Derived.Deep.RegionHeld3
import Derived.Deep.DeepCutAuto
import Derived.Deep.CutBlock
namespace Go.Proofs.Ytbimaaknjedonaa
open Go.RowKit Go.Lib Go.Maps
set_option linter.unusedVariables false

/-! ### regions that draw their order, at worlds that only grew -/
/-- A world that has grown out of w. -/
structure GW (w : World) where
  W : World
  gr : Gr w W
theorem wp_region_gw {P : Program} {id : Nat} {Q : Exit → Act → World → Prop} {a : Act} {w : World} {l : List Oper} (hm : P.follows .mixedOrders = true) (hB : Region.lexB .any l.toArray = true)
    (h : wpQuiet P l.toArray (fun w' => ∃ p : GW w, w' = p.W) (fun a' => ∀ w', (∃ p : GW w, w' = p.W) → Q .normal a' w') l a) : (Code.region id l.toArray true).wp P Q a w :=
  wp_region_quiet (C := fun w' => ∃ p : GW w, w' = p.W) hm hB ⟨⟨w.drew, (Ke.refl _ w).drew⟩, rfl⟩ (by simpa using h)
theorem gw_cell {w : World} {b o : Nat} {v : Value} (h : w.cell? ⟨b, o, none⟩ = some v) (p : GW w) : p.W.cell? ⟨b, o, none⟩ = some v := kcell p.gr h
theorem gw_of {P : Program} {f : FuncId} {args : Array Value} {w : World} {p : GW w} {v : Value} (h : Calls P f args p.W fun e w' => e = .returned v ∧ Gr p.W w') :
    Calls P f args p.W fun e w' => e = .returned v ∧ ∃ q : GW w, w' = q.W :=
  h.mono fun _ w' ⟨he, hg⟩ => ⟨he, ⟨w', p.gr.gr hg⟩, rfl⟩
theorem gw_ne {w W : World} (g : Gr w W) : Nonempty (GW W) := ⟨⟨W, Ke.refl _ _⟩⟩
theorem gw_all {w W : World} (g : Gr w W) (p : GW W) : ∃ q : GW W, p.W = q.W := ⟨p, rfl⟩
theorem gw_self {w : World} (p : GW w) : ∃ q : GW w, p.W = q.W := ⟨p, rfl⟩

/-- A new box of two, not yet written, behind a call. -/
structure Box0 (W : World) (a : Nat) : Prop where
  v0 : W.cell? ⟨a, 0, none⟩ = some (.int .i64 0)
  v1 : W.cell? ⟨a, 1, none⟩ = some (.int .i64 0)
  u0 : W.frozen? ⟨a, 0, none⟩ = false
  u1 : W.frozen? ⟨a, 1, none⟩ = false
theorem box_carry {W W' : World} {G : Prop} (a : Nat) (g : Gr W W') (h : Box0 W a) (f : Box0 W' a → G) : G := f ⟨kcell g h.v0, kcell g h.v1, kfz g (cell_lt h.v0) h.u0, kfz g (cell_lt h.v1) h.u1⟩

/-- What 'with' answers. -/
def Res (k N D M r0 r1 r2 er : Int) : Prop :=
  (16777216 < M ∧ r0 = 0 ∧ r1 = 0 ∧ r2 = 0 ∧ er = 7) ∨ (M ≤ 16777216 ∧ k * D < N ∧ r0 = 0 ∧ r1 = 0 ∧ r2 = 0 ∧ er = 8) ∨ (M ≤ 16777216 ∧ N ≤ k * D ∧ r0 = N ∧ r1 = D ∧ r2 = M ∧ er = 0)
/-- Its boxes on the way. -/
structure WB (w W : World) (s B : Nat) (e p N D M : Int) : Prop where
  t0 : W.cell? ⟨s, 0, none⟩ = some (.int .i64 e)
  t1 : W.cell? ⟨s, 1, none⟩ = some (.int .i64 p)
  r0 : W.cell? ⟨s + 1, 0, none⟩ = some (.int .i64 0)
  r1 : W.cell? ⟨s + 1, 1, none⟩ = some (.int .i64 0)
  r2 : W.cell? ⟨s + 1, 2, none⟩ = some (.int .i64 0)
  f0 : W.frozen? ⟨s + 1, 0, none⟩ = false
  f1 : W.frozen? ⟨s + 1, 1, none⟩ = false
  f2 : W.frozen? ⟨s + 1, 2, none⟩ = false
  n0 : W.cell? ⟨B, 0, none⟩ = some (.int .i64 N)
  n1 : W.cell? ⟨B, 1, none⟩ = some (.int .i64 D)
  n2 : W.cell? ⟨B, 2, none⟩ = some (.int .i64 M)
  gr : Gr w W
  se : s = w.heap.size
theorem WB.keep {w W W' : World} {s B : Nat} {e p N D M : Int} (h : WB w W s B e p N D M) (g : Gr W W') : WB w W' s B e p N D M :=
  ⟨kcell g h.t0, kcell g h.t1, kcell g h.r0, kcell g h.r1, kcell g h.r2, kfz g (cell_lt h.r0) h.f0, kfz g (cell_lt h.r1) h.f1, kfz g (cell_lt h.r2) h.f2, kcell g h.n0, kcell g h.n1, kcell g h.n2, h.gr.gr g, h.se⟩
theorem limit_led {w : World} {S : Nat → Prop} {p : Nat} {k : Int} {L : List Wt} (h : Led w S p k L) : Calls Try.prog 31 #[.pointer (some ⟨p, 0, none⟩)] w fun x w' => x = .returned (.agg #[.int .i64 k, .int .i64 1]) ∧ Gr w w' := by
  obtain ⟨c, rfl, ⟨⟨s0, s1, s2, a⟩, _, _⟩ | ⟨b1, b2, a, _⟩⟩ := h
  · exact limit_any ⟨_, _, _, _, _, a⟩
  · obtain ⟨s0, s1, s2, a0, _⟩ := a.ex
    exact limit_any ⟨_, _, _, _, _, a0⟩
/-- The sum in its box. -/
def SumBox (N D : Int) (w : World) (x : Value) (W : World) : Prop :=
  ∃ b : Nat, x = .pointer (some ⟨b, 0, none⟩) ∧ W.cell? ⟨b, 0, none⟩ = some (.int .i64 N) ∧ W.cell? ⟨b, 1, none⟩ = some (.int .i64 D) ∧ Gr w W
theorem cmp_gt {N x : Int} (h : x < N) : cmpI N x = 1 := cmpI_gt h

set_option maxHeartbeats 1000000 in
theorem with_any {w : World} {S : Nat → Prop} {l : Nat} {k : Int} {L : List Wt} {e p r0 r1 r2 er N' D' M' : Int} (h : Led w S l k L) (hm : 1 ≤ e ∧ e ≤ p ∧ p ≤ 1048575) (t' : Tot (L ++ [⟨0, e, p⟩]) N' D' M') (hr : Res k N' D' M' r0 r1 r2 er) :
    Calls Try.prog 22 #[.pointer (some ⟨l, 0, none⟩), .agg #[.int .i64 e, .int .i64 p]] w fun x w' => x = .returned (.tuple #[.agg #[.int .i64 r0, .int .i64 r1, .int .i64 r2], .int .i64 er]) ∧ Gr w w' := by
  obtain ⟨N, D, M, t⟩ := Tot.of L
  have tb := t.bd h.ok
  obtain ⟨a, b, wn⟩ : ∃ a b, Wn e p a b := ⟨_, _, rfl, rfl⟩
  have hl : ((Nat.lcm M.natAbs p.natAbs : Nat) : Int) = M' := by
    rw [← t'.m, lcmL_app]
    have : M.natAbs = lcmL L := by have := t.m; omega
    rw [this]
  have H := Lib.hid h
  have T := Lib.hid t
  have T' := Lib.hid t'
  have TB := Lib.hid tb
  have HM := Lib.hid hm
  have HR := Lib.hid hr
  have HL := Lib.hid hl
  have WN := Lib.hid wn
  clear h t t' tb hm hr hl wn
  go_enter Try.func22, Try.ntmps22
  go_wp2_with fail
  refine (all_any (H.out.gr (((Ke.refl _ w).alloc _).alloc _)) T.out).mono ?_
  rintro x w1 ⟨rfl, g1⟩
  have z1 := g1.size
  simp at z1
  have WB1 : Hid (WB w (w1.alloc (.cells #[.int .i64 N, .int .i64 D, .int .i64 M] 54)) w.heap.size w1.heap.size e p N D M) := by
    have g2 : Gr w1 (w1.alloc (.cells #[.int .i64 N, .int .i64 D, .int .i64 M] 54)) := (Ke.refl _ w1).alloc _
    refine ⟨kcell g2 (kcell g1 (by simp [go_sem])), kcell g2 (kcell g1 (by simp [go_sem])), kcell g2 (kcell g1 (by simp [go_sem])), kcell g2 (kcell g1 (by simp [go_sem])), kcell g2 (kcell g1 (by simp [go_sem])), ?_, ?_, ?_, by simp [go_sem], by simp [go_sem], by simp [go_sem], ((((Ke.refl _ w).alloc _).alloc _).gr g1).gr g2, rfl⟩
    · exact kfz g2 (by simp; omega) (kfz g1 (by simp) (by simp [go_sem]))
    · exact kfz g2 (by simp; omega) (kfz g1 (by simp) (by simp [go_sem]))
    · exact kfz g2 (by simp; omega) (kfz g1 (by simp) (by simp [go_sem]))
  have n1 : ¬ w1.heap.size = w.heap.size := by omega
  have ct1 : w1.cell? ⟨w.heap.size, 1, none⟩ = some (.int .i64 p) := kcell g1 (by simp [go_sem])
  have hw1 : w.heap.size < w1.heap.size := by omega
  clear g1
  go_wp2_with fail
  refine (lcmG M p M' _ TB.out.m0 TB.out.m1 (by have := HM.out; omega) HM.out.2.2 HL.out).mono ?_
  rintro x w3 ⟨rfl, g3⟩
  have wb := WB1.out.keep g3
  generalize w1.heap.size = B at wb n1
  clear WB1 ct1 hw1 g3 z1
  have WB3 := Lib.hid wb
  have n0 := wb.n0
  have n1 := wb.n1
  have t0 := wb.t0
  have t1 := wb.t1
  clear wb
  have r0' := WB3.out.r0
  have r1' := WB3.out.r1
  have r2' := WB3.out.r2
  have f0' := WB3.out.f0
  have f1' := WB3.out.f1
  have f2' := WB3.out.f2
  by_cases hM : 16777216 < M'
  · obtain ⟨rfl, rfl, rfl, rfl⟩ : r0 = 0 ∧ r1 = 0 ∧ r2 = 0 ∧ er = 7 := by
      rcases HR.out with ⟨_, q⟩ | ⟨q, _⟩ | ⟨q, _⟩
      · exact q
      · omega
      · omega
    have d1 : decide (16777216 < M') = true := by simp [hM]
    go_wp2
    refine bodyPost_ret (v := .tuple #[.agg #[.int .i64 0, .int .i64 0, .int .i64 0], .int .i64 7]) (by simp [results, Try.results22, go_sem, r0', r1', r2']) rfl ⟨rfl, ?_⟩
    exact ((WB3.out.gr.set (.inr (by simp)) _).set (.inr (by simp)) _).set (.inr (by simp)) _
  · have hM' : M' ≤ 16777216 := by omega
    have d1 : decide (16777216 < M') = false := by simp; omega
    have TB' := Lib.hid (T'.out.bd' H.out.ok HM.out hM')
    have H3 := Lib.hid (H.out.gr WB3.out.gr)
    have z3 : Hid (B < w3.heap.size) := cell_lt n0
    have z4 : Hid (w.heap.size < w3.heap.size) := cell_lt t0
    go_upto_region 5 with fail
    clear hM
    go_cut [9] (fun s9 wx => SumBox N' D' w3 s9 wx)
    case first =>
      clear r0' r1' r2' f0' f1' f2'
      have z3' := z3.out
      have z4' := z4.out
      go_region_held3 (fun w' => w'.cell? ⟨B, 0, none⟩ = some (.int .i64 N) ∧ w'.cell? ⟨B, 1, none⟩ = some (.int .i64 D) ∧ w'.cell? ⟨w.heap.size, 0, none⟩ = some (.int .i64 e) ∧ w'.cell? ⟨w.heap.size, 1, none⟩ = some (.int .i64 p))
        (refine ⟨?_, ?_, ?_, ?_⟩ <;> (repeat (first | assumption | (with_reducible refine cell_old ?_ _ _) | (with_reducible refine cell_drew ?_) | (with_reducible refine cell_drewN ?_ _) | (with_reducible refine cell_set ?_ (by omega) _))))
        (first
          | (go_at_call 24; (with_reducible refine (weight_any e p a b _ HM.out WN.out).mono ?_); rintro x wA ⟨rfl, gA⟩; have y0 : wA.cell? ⟨B, 0, none⟩ = some (.int .i64 N) := kcell gA (by repeat (first | assumption | (with_reducible refine cell_old ?_ _ _) | (with_reducible refine cell_drew ?_))); have y1 : wA.cell? ⟨B, 1, none⟩ = some (.int .i64 D) := kcell gA (by repeat (first | assumption | (with_reducible refine cell_old ?_ _ _) | (with_reducible refine cell_drew ?_))); have y2 : wA.cell? ⟨w.heap.size, 0, none⟩ = some (.int .i64 e) := kcell gA (by repeat (first | assumption | (with_reducible refine cell_old ?_ _ _) | (with_reducible refine cell_drew ?_))); have y3 : wA.cell? ⟨w.heap.size, 1, none⟩ = some (.int .i64 p) := kcell gA (by repeat (first | assumption | (with_reducible refine cell_old ?_ _ _) | (with_reducible refine cell_drew ?_))); (try (refine box_carry w3.heap.size gA ?_ ?_; (· (refine ⟨?_, ?_, ?_, ?_⟩ <;> simp [go_sem])); rintro ⟨v0, v1, u0, u1⟩)); have zA := gA.size; (try simp at zA))
          | (go_at_call 29; (with_reducible refine (addG _ T.out TB.out WN.out HM.out T'.out TB'.out).mono ?_); rintro x wB ⟨rfl, gB⟩; have y0 : wB.cell? ⟨B, 0, none⟩ = some (.int .i64 N) := kcell gB (by repeat (first | assumption | (with_reducible refine cell_old ?_ _ _) | (with_reducible refine cell_drew ?_))); have y1 : wB.cell? ⟨B, 1, none⟩ = some (.int .i64 D) := kcell gB (by repeat (first | assumption | (with_reducible refine cell_old ?_ _ _) | (with_reducible refine cell_drew ?_))); have y2 : wB.cell? ⟨w.heap.size, 0, none⟩ = some (.int .i64 e) := kcell gB (by repeat (first | assumption | (with_reducible refine cell_old ?_ _ _) | (with_reducible refine cell_drew ?_))); have y3 : wB.cell? ⟨w.heap.size, 1, none⟩ = some (.int .i64 p) := kcell gB (by repeat (first | assumption | (with_reducible refine cell_old ?_ _ _) | (with_reducible refine cell_drew ?_))); (try (refine box_carry wA.heap.size gB ?_ ?_; (· (refine ⟨?_, ?_, ?_, ?_⟩ <;> simp [go_sem])); rintro ⟨v0, v1, u0, u1⟩)); (try (refine box_carry w3.heap.size gB ?_ ?_; (· (refine ⟨?_, ?_, ?_, ?_⟩ <;> assumption)); rintro ⟨v0, v1, u0, u1⟩)); have zB := gB.size; (try simp at zB)))
      all_goals (go_wp2_with fail)
      all_goals go_meet
      · exact ⟨_, rfl, by simp [go_sem], by simp [go_sem], ((((Ke.refl _ w3).drew).gr gA).gr gB).alloc _⟩
      · exact ⟨_, rfl, by simp [go_sem, v0], by simp [go_sem, v1], (((((Ke.refl _ w3).drew.gr gA).alloc _).gr gB).set (.inr (by simp; omega)) _).set (.inr (by simp; omega)) _⟩
      · exact ⟨_, rfl, by simp [go_sem, v0], by simp [go_sem, v1], (((((Ke.refl _ w3).drew.alloc _).gr gA).gr gB).set (.inr (by simp)) _).set (.inr (by simp)) _⟩
    case rest =>
      obtain ⟨b', rfl, q0, q1, gx⟩ := hcut
      have WBx := Lib.hid (WB3.out.keep gx)
      have Hx := Lib.hid (H.out.gr WBx.out.gr)
      have hne := gw_ne gx
      have hself := gw_all gx
      clear WB3 H3 n0 n1 t0 t1 r0' r1' r2' f0' f1' f2' z3 z4 gx
      have kq0 := gw_cell q0
      have kq1 := gw_cell q1
      by_cases hN : k * D' < N'
      · obtain ⟨rfl, rfl, rfl, rfl⟩ : r0 = 0 ∧ r1 = 0 ∧ r2 = 0 ∧ er = 8 := by
          rcases HR.out with ⟨q, _⟩ | ⟨_, _, q⟩ | ⟨_, q, _⟩
          · omega
          · exact q
          · omega
        have d3 : cmpI N' (k * D') = 1 := cmpI_gt hN
        have D3 := Lib.hid d3
        clear d3
        go_upto_region 6 with fail
        refine wp_region_gw (by kernel_rfl) (by kernel_rfl) ?_
        repeat (go_big_quiet_step (first | (go_at_call 31; exact gw_of (limit_led (Hx.out.gr (GW.gr _)))) | (go_at_call 30; exact gw_of (D3.out ▸ cmpG _ T'.out TB'.out (H.out.ok).k0 (H.out.ok).k1))))
        refine wpQuiet_nil ?_
        intro _ hw'
        obtain ⟨pp, hw''⟩ := hw'
        subst hw''
        have wb := WBx.out.keep pp.gr
        have GR := Lib.hid wb.gr
        have r0' := wb.r0
        have r1' := wb.r1
        have r2' := wb.r2
        have f0' := wb.f0
        have f1' := wb.f1
        have f2' := wb.f2
        clear wb kq0 kq1 hself hne q0 q1
        go_wp2
        refine bodyPost_ret (v := .tuple #[.agg #[.int .i64 0, .int .i64 0, .int .i64 0], .int .i64 8]) (by simp [results, Try.results22, go_sem, r0', r1', r2']) rfl ⟨rfl, ?_⟩
        exact ((GR.out.set (.inr (by simp)) _).set (.inr (by simp)) _).set (.inr (by simp)) _
      · have hN' : N' ≤ k * D' := by omega
        obtain ⟨rfl, rfl, rfl, rfl⟩ : r0 = N' ∧ r1 = D' ∧ r2 = M' ∧ er = 0 := by
          rcases HR.out with ⟨q, _⟩ | ⟨_, q, _⟩ | ⟨_, _, q⟩
          · omega
          · omega
          · exact q
        obtain ⟨v, D3, hv⟩ : ∃ v, Hid (cmpI r0 (k * r1) = v) ∧ v ≤ 0 := ⟨_, rfl, by unfold cmpI; split <;> (try split) <;> omega⟩
        have dv : decide (0 < v) = false := by simp; omega
        clear hN hN'
        go_upto_region 6 with fail
        refine wp_region_gw (by kernel_rfl) (by kernel_rfl) ?_
        repeat (go_big_quiet_step (first | (go_at_call 31; exact gw_of (limit_led (Hx.out.gr (GW.gr _)))) | (go_at_call 30; exact gw_of (D3.out ▸ cmpG _ T'.out TB'.out (H.out.ok).k0 (H.out.ok).k1))))
        refine wpQuiet_nil ?_
        intro _ hw'
        obtain ⟨pp, hw''⟩ := hw'
        subst hw''
        have wb := WBx.out.keep pp.gr
        have GR := Lib.hid wb.gr
        have r0' := wb.r0
        have r1' := wb.r1
        have r2' := wb.r2
        have f0' := wb.f0
        have f1' := wb.f1
        have f2' := wb.f2
        have b0' := kq0 pp
        have b1' := kq1 pp
        clear wb kq0 kq1 hself hne q0 q1
        go_wp2
        refine bodyPost_ret (v := .tuple #[.agg #[.int .i64 r0, .int .i64 r1, .int .i64 r2], .int .i64 0]) (by simp [results, Try.results22, go_sem, r0', r1', r2']) rfl ⟨rfl, ?_⟩
        exact ((GR.out.set (.inr (by simp)) _).set (.inr (by simp)) _).set (.inr (by simp)) _
end Go.Proofs.Ytbimaaknjedonaa
