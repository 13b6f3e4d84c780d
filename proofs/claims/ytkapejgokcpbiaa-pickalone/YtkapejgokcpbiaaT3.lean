/- pick: contracts of Can and Rank (the program's and the document's). -/
import Derived.Test.YtkapejgokcpbiaaT2
namespace Go.Proofs.Ytkapejgokcpbiaa
open Go.RowKit Go.Lib
set_option linter.unusedVariables false
set_option maxRecDepth 100000
set_option maxHeartbeats 2000000

/-- A task whose numbers are small enough to be reckoned with. -/
structure SmT (x : Tk) : Prop where
  g : Low1 x.g
  r0 : -2000000000000 ≤ x.r
  r1 : x.r ≤ 2000000000000
def SmC (c : Int) : Prop := -2000000000000 ≤ c ∧ c ≤ 2000000000000

theorem u_sub {c r : Int} (hc : SmC c) (h0 : -2000000000000 ≤ r) (h : r ≤ c) : IntKind.u64.wrap (IntKind.u64.wrap c - IntKind.u64.wrap r) = c - r := by
  obtain ⟨c0, c1⟩ := hc
  simp only [IntKind.wrap_u64]
  omega
theorem u_fit {c : Int} (h0 : 0 ≤ c) (h1 : c ≤ 2000000000000) : IntKind.u64.wrap c = c := by
  simp only [IntKind.wrap_u64]
  omega
theorem release_yes (e p i v : Int) (w : World) (h : Quan e p i) (hv : rel e p i = v) :
    Calls Try.prog 21 #[.int .i64 e, .int .i64 p, .int .i64 i] w fun x w' => x = .returned (.int .i64 v) ∧ w = w' := by
  have h1 := h.e1; have h2 := h.ep; have h3 := h.pm; have h4 := h.i1; have h5 := h.ie
  obtain ⟨b0, b1⟩ := jp_bd h
  have HV := Lib.hid hv
  clear hv
  go_enter Try.func21, Try.ntmps21
  go_wp2_with fail
  refine (may_yes _ _ _ _ h).mono ?_
  rintro e w1 ⟨rfl, rfl⟩
  go_wp2
  go_ret
  exact ⟨ret_int HV.out, rfl⟩
theorem can_any (x : Tk) (c : Int) (ea : Bool) (w : World) (hx : SmT x) (hc : SmC c) : Calls Try.prog 10 #[VT x, .int .i64 c, .bool ea] w fun e w' => e = .returned (.bool (canB x c ea)) ∧ Gr w w' := by
  have C := Lib.hid (fun W => next_any x W hx.g)
  have hr0 := hx.r0
  have hr1 := hx.r1
  have hc' := hc
  obtain ⟨c0, c1⟩ := hc'
  have US := Lib.hid (fun h => u_sub (r := x.r) hc hx.r0 h)
  have hg := hx.g.2
  unfold canB
  unfold nxt at C
  clear hx hc
  obtain ⟨a, e, p, sp, le, wa, ac, r, g, dn, ct⟩ := x
  simp only at *
  cases hq : ac && quB e p (g + 1)
  · rw [hq] at C
    simp only [Bool.false_and]
    clear hq US
    go_enter Try.func10, Try.ntmps10
    go_wp2_with fail
    refine (C.out _).mono ?_
    rintro q w1 ⟨rfl, g1⟩
    have G1 := Lib.hid (((Ke.refl (fun _ => False) w).alloc _).trans g1)
    clear g1
    go_wp2
    go_ret
    exact ⟨rfl, G1.out⟩
  · rw [hq] at C
    simp only [Bool.true_and]
    have Q : Quan e p (g + 1) := quB_iff.1 (by cases ac <;> simp_all)
    have hi1 := Q.i1
    have R := Lib.hid (fun W => release_yes e p (g + 1) _ W Q rfl)
    obtain ⟨rl0, rl1⟩ := rel_bd Q
    have hp := Q.pm
    clear hq Q
    generalize rel e p (g + 1) = rl at *
    have d0 : (g + 1 == 0) = false := by simp; omega
    simp only [if_true] at C
    by_cases hcr : c < r
    · have d1 : decide (c < r) = true := by simp [hcr]
      have d2 : decide (r ≤ c) = false := by simp; omega
      rw [d2]
      clear hcr d2 US
      simp only [Bool.false_and]
      go_enter Try.func10, Try.ntmps10
      go_wp2_with fail
      refine (C.out _).mono ?_
      rintro q w1 ⟨rfl, g1⟩
      have b7 := gcell (a := ⟨w.heap.size, 7, none⟩) g1 (by simp [go_sem]; rfl)
      have G1 := Lib.hid (((Ke.refl (fun _ => False) w).alloc _).trans g1)
      clear g1
      go_wp2
      go_ret
      exact ⟨rfl, G1.out⟩
    · have d1 : decide (c < r) = false := by simp [hcr]
      have d2 : decide (r ≤ c) = true := by simp; omega
      have us := US.out (by omega)
      have uf : IntKind.u64.wrap rl = rl := u_fit rl0 (by omega)
      obtain ⟨d, hd⟩ : ∃ d, c - r = d := ⟨_, rfl⟩
      have hd0 : 0 ≤ d := by omega
      rw [hd] at us
      rw [d2, hd]
      simp only [Bool.true_and]
      cases ea
      · simp only [Bool.false_or]
        go_enter Try.func10, Try.ntmps10
        go_wp2_with fail
        refine (C.out _).mono ?_
        rintro q w1 ⟨rfl, g1⟩
        have b7 := gcell (a := ⟨w.heap.size, 7, none⟩) g1 (by simp [go_sem]; rfl)
        have b1 := gcell (a := ⟨w.heap.size, 1, none⟩) g1 (by simp [go_sem]; rfl)
        have b2 := gcell (a := ⟨w.heap.size, 2, none⟩) g1 (by simp [go_sem]; rfl)
        have G1 := Lib.hid (((Ke.refl (fun _ => False) w).alloc _).trans g1)
        clear g1
        go_wp2_with fail
        refine (R.out _).mono ?_
        rintro q w2 ⟨rfl, rfl⟩
        go_wp2
        go_ret
        exact ⟨rfl, G1.out⟩
      · simp only [Bool.true_or]
        go_enter Try.func10, Try.ntmps10
        go_wp2_with fail
        refine (C.out _).mono ?_
        rintro q w1 ⟨rfl, g1⟩
        have b7 := gcell (a := ⟨w.heap.size, 7, none⟩) g1 (by simp [go_sem]; rfl)
        have G1 := Lib.hid (((Ke.refl (fun _ => False) w).alloc _).trans g1)
        clear g1
        go_wp2
        go_ret
        exact ⟨rfl, G1.out⟩

theorem rank_any (x : Tk) (w : World) (hx : Low1 x.g) : Calls Try.prog 12 #[VT x] w fun e w' => e = .returned (V (rkT x)) ∧ Gr w w' := by
  have C := Lib.hid (fun W => next_any x W hx)
  have D := Lib.hid (fun W => of_any x.e x.p (nxt x) x.r x.id W)
  unfold rkT
  generalize rkV x.e x.p (nxt x) x.r x.id = v at *
  generalize nxt x = n at *
  clear hx
  obtain ⟨a, e, p, sp, le, wa, ac, r, g, dn, ct⟩ := x
  obtain ⟨vd, vb, vg, vi⟩ := v
  simp only at *
  go_enter Try.func12, Try.ntmps12
  go_upto_region 1 with fail
  obtain ⟨w5, hw5⟩ : ∃ w5, w5 = (w.alloc (.cells #[.int .i64 a, .int .i64 e, .int .i64 p, .bool sp, .bool le, .bool wa, .bool ac, .int .i64 r, .int .i64 g, .bool dn, .int .i64 ct] 27)).alloc (.cells #[.int .i64 0, .int .i64 0, .int .i64 0, .int .i64 0] 32) := ⟨_, rfl⟩
  have g5 : Gr w w5 := by rw [hw5]; exact ((Ke.refl _ _).alloc _).alloc _
  have k0 := gw_cell (show w5.cell? ⟨w.heap.size, 0, none⟩ = some (.int .i64 a) by rw [hw5]; simp [go_sem])
  have k1 := gw_cell (show w5.cell? ⟨w.heap.size, 1, none⟩ = some (.int .i64 e) by rw [hw5]; simp [go_sem])
  have k2 := gw_cell (show w5.cell? ⟨w.heap.size, 2, none⟩ = some (.int .i64 p) by rw [hw5]; simp [go_sem])
  have k3 := gw_cell (show w5.cell? ⟨w.heap.size, 3, none⟩ = some (.bool sp) by rw [hw5]; simp [go_sem])
  have k4 := gw_cell (show w5.cell? ⟨w.heap.size, 4, none⟩ = some (.bool le) by rw [hw5]; simp [go_sem])
  have k5 := gw_cell (show w5.cell? ⟨w.heap.size, 5, none⟩ = some (.bool wa) by rw [hw5]; simp [go_sem])
  have k6 := gw_cell (show w5.cell? ⟨w.heap.size, 6, none⟩ = some (.bool ac) by rw [hw5]; simp [go_sem])
  have k7 := gw_cell (show w5.cell? ⟨w.heap.size, 7, none⟩ = some (.int .i64 r) by rw [hw5]; simp [go_sem])
  have k8 := gw_cell (show w5.cell? ⟨w.heap.size, 8, none⟩ = some (.int .i64 g) by rw [hw5]; simp [go_sem])
  have k9 := gw_cell (show w5.cell? ⟨w.heap.size, 9, none⟩ = some (.bool dn) by rw [hw5]; simp [go_sem])
  have k10 := gw_cell (show w5.cell? ⟨w.heap.size, 10, none⟩ = some (.int .i64 ct) by rw [hw5]; simp [go_sem])
  have kf : ∀ o, w5.frozen? ⟨w.heap.size + 1, o, none⟩ = false := fun o => by rw [hw5]; simp
  have hlt : w.heap.size + 1 < w5.heap.size := by rw [hw5]; simp
  rw [← hw5]
  have KF : Hid (∀ (p : GW w5) o, p.W.frozen? ⟨w.heap.size + 1, o, none⟩ = false) := fun p o => (p.gr.frozen (p := ⟨w.heap.size + 1, o, none⟩) hlt (fun q => q)).trans (kf o)
  have kc : ∀ (p : GW w5) o, o < 4 → ∃ v, p.W.cell? ⟨w.heap.size + 1, o, none⟩ = some v := fun p o ho => by
    have : ∃ v, w5.cell? ⟨w.heap.size + 1, o, none⟩ = some v := by
      rw [hw5]
      rcases (show o = 0 ∨ o = 1 ∨ o = 2 ∨ o = 3 by omega) with rfl | rfl | rfl | rfl <;> simp [go_sem]
    obtain ⟨v, hv⟩ := this
    exact ⟨v, gcell p.gr hv⟩
  have KC := Lib.hid kc
  have hb : w.heap.size ≤ w.heap.size + 1 := by omega
  have G5 := Lib.hid g5
  have HLT := Lib.hid hlt
  clear hw5 kf hlt kc g5
  have hne : Nonempty (GW w5) := ⟨⟨w5, Ke.refl _ _⟩⟩
  have hself := @gw_self w5
  have hself' : ∀ p : GW w5, ∃ q : GW w5, q.W = p.W := fun p => ⟨p, rfl⟩
  refine wp_region_gw_tail 11 (by first | assumption | kernel_rfl) (by kernel_rfl) ?_
  simp only [List.take_succ_cons, List.take_zero, List.drop_succ_cons, List.drop_zero]
  repeat (go_big_quiet_step (first | (go_at_call 20; exact gw_of (C.out _)) | (go_at_call 22; exact gw_of (D.out _))))
  refine wpQuiet_nil ?_
  intro _ hw'
  obtain ⟨pp, hw''⟩ := hw'
  subst hw''
  obtain ⟨c0, e0⟩ := KC.out pp 0 (by omega)
  obtain ⟨c1, e1⟩ := KC.out pp 1 (by omega)
  obtain ⟨c2, e2⟩ := KC.out pp 2 (by omega)
  obtain ⟨c3, e3⟩ := KC.out pp 3 (by omega)
  have z0 := KF.out pp 0
  have z1 := KF.out pp 1
  have z2 := KF.out pp 2
  have z3 := KF.out pp 3
  have G6 := Lib.hid (G5.out.trans pp.gr)
  clear k0 k1 k2 k3 k4 k5 k6 k7 k8 k9 k10 KC KF hne hself hself' C D G5 HLT
  generalize pp.W = w6 at *
  clear pp
  generalize hB : w.heap.size + 1 = B at *
  go_wp2
  refine bodyPost_ret (v := V ⟨vd, vb, vg, vi⟩) (by simp [results, Try.results12, go_sem, *]) rfl ⟨rfl, ?_⟩
  repeat (first | exact G6.out | with_reducible refine Ke.set ?_ (.inr (by simp; omega)) _)

theorem rcan_any (x : Tk) (c : Int) (ea : Bool) (w : World) (hx : SmT x) (hc : SmC c) : Calls Try.prog 11 #[VT x, .int .i64 c, .bool ea] w fun e w' => e = .returned (.bool (canB x c ea)) ∧ Gr w w' := by
  have hr0 := hx.r0
  have hr1 := hx.r1
  obtain ⟨c0, c1⟩ := hc
  obtain ⟨g0, g1⟩ := hx.g
  unfold canB
  clear hx
  obtain ⟨a, e, p, sp, le, wa, ac, r, g, dn, ct⟩ := x
  simp only at *
  cases ac
  · simp only [Bool.false_and]
    go_enter Try.func11, Try.ntmps11
    go_wp2
    go_ret
    exact ⟨rfl, (Ke.refl _ _).alloc _⟩
  simp only [Bool.true_and]
  by_cases h1 : e ≤ g
  · have d1 : decide (g ≥ e) = true := by simp; omega
    have hq : quB e p (g + 1) = false := by
      cases z : quB e p (g + 1)
      · rfl
      · have := (quB_iff.1 z).ie; omega
    rw [hq]
    clear hq
    simp only [Bool.false_and]
    go_enter Try.func11, Try.ntmps11
    go_wp2
    go_ret
    exact ⟨rfl, (Ke.refl _ _).alloc _⟩
  have d1 : decide (g ≥ e) = false := by simp; omega
  by_cases h2 : g < 0
  · have d2 : decide (g < 0) = true := by simp; omega
    have hq : quB e p (g + 1) = false := by
      cases z : quB e p (g + 1)
      · rfl
      · have := (quB_iff.1 z).i1; omega
    rw [hq]
    clear hq
    simp only [Bool.false_and]
    go_enter Try.func11, Try.ntmps11
    go_wp2
    go_ret
    exact ⟨rfl, (Ke.refl _ _).alloc _⟩
  have d2 : decide (g < 0) = false := by simp; omega
  cases hq : quB e p (g + 1)
  · have nt : ¬ Task e p := fun t => quB_no hq ⟨t, by omega, by omega⟩
    have C := Lib.hid (fun W => taskMay_no e p W nt)
    simp only [Bool.false_and]
    clear hq nt
    go_enter Try.func11, Try.ntmps11
    go_wp2_with fail
    refine (C.out _).mono ?_
    rintro q w1 ⟨rfl, rfl⟩
    go_wp2
    go_ret
    exact ⟨rfl, (Ke.refl _ _).alloc _⟩
  have Q := quB_iff.1 hq
  have C := Lib.hid (fun W => taskMay_yes e p W Q.toTask)
  have R := Lib.hid (fun W => win_any e p (g + 1) W Q)
  obtain ⟨rl0, rl1⟩ := rel_bd Q
  clear hq Q
  generalize rel e p (g + 1) = rl at *
  simp only [Bool.true_and]
  by_cases hcr : r ≤ c
  · have d3 : decide (r > c) = false := by simp; omega
    have d4 : decide (r ≤ c) = true := by simp; omega
    rw [d4]
    simp only [Bool.true_and]
    cases ea
    · simp only [Bool.false_or]
      obtain ⟨d, hd⟩ : ∃ d, c - r = d := ⟨_, rfl⟩
      rw [hd]
      go_enter Try.func11, Try.ntmps11
      go_wp2_with fail
      refine (C.out _).mono ?_
      rintro q w1 ⟨rfl, rfl⟩
      go_wp2_with fail
      refine (R.out _).mono ?_
      rintro q w2 ⟨⟨a1, a2, a3, rfl⟩, k2⟩
      have b7 := gcell (a := ⟨w.heap.size, 7, none⟩) k2 (by simp [go_sem]; rfl)
      have G2 := Lib.hid (((Ke.refl (fun _ => False) w).alloc _).trans k2)
      clear k2
      go_wp2
      go_ret
      exact ⟨rfl, G2.out⟩
    · simp only [Bool.true_or]
      go_enter Try.func11, Try.ntmps11
      go_wp2_with fail
      refine (C.out _).mono ?_
      rintro q w1 ⟨rfl, rfl⟩
      go_wp2_with fail
      refine (R.out _).mono ?_
      rintro q w2 ⟨⟨a1, a2, a3, rfl⟩, k2⟩
      have G2 := Lib.hid (((Ke.refl (fun _ => False) w).alloc _).trans k2)
      clear k2
      go_wp2
      go_ret
      exact ⟨rfl, G2.out⟩
  · have d3 : decide (r > c) = true := by simp; omega
    have d4 : decide (r ≤ c) = false := by simp; omega
    rw [d4]
    simp only [Bool.false_and]
    go_enter Try.func11, Try.ntmps11
    go_wp2_with fail
    refine (C.out _).mono ?_
    rintro q w1 ⟨rfl, rfl⟩
    go_wp2
    go_ret
    exact ⟨rfl, (Ke.refl _ _).alloc _⟩
theorem rrank_any (x : Tk) (w : World) (hx : Low1 x.g) : Calls Try.prog 14 #[VT x] w fun e w' => e = .returned (V (rkT x)) ∧ Gr w w' := by
  rw [rkT_ref]
  have D := Lib.hid (fun W => rankOf_any x.e x.p (x.g + 1) x.r x.id W)
  obtain ⟨g0, g1⟩ := hx
  obtain ⟨a, e, p, sp, le, wa, ac, r, g, dn, ct⟩ := x
  simp only at *
  generalize rkV e p (g + 1) r a = v at *
  obtain ⟨vd, vb, vg, vi⟩ := v
  cases ac
  · clear D
    go_enter Try.func14, Try.ntmps14
    go_wp2
    exact bodyPost_ret (v := V ⟨0, 0, 0, a⟩) (by simp [results, Try.results14, go_sem]) rfl ⟨rfl, ((Ke.refl _ _).alloc _).alloc _⟩
  · rw [if_pos rfl]
    go_enter Try.func14, Try.ntmps14
    go_wp2_with fail
    refine (D.out _).mono ?_
    rintro q w1 ⟨rfl, k1⟩
    have b0 := gcell (a := ⟨w.heap.size + 1, 0, none⟩) k1 (by simp [go_sem]; rfl)
    have b1 := gcell (a := ⟨w.heap.size + 1, 1, none⟩) k1 (by simp [go_sem]; rfl)
    have b2 := gcell (a := ⟨w.heap.size + 1, 2, none⟩) k1 (by simp [go_sem]; rfl)
    have b3 := gcell (a := ⟨w.heap.size + 1, 3, none⟩) k1 (by simp [go_sem]; rfl)
    have z : ∀ o, w1.frozen? ⟨w.heap.size + 1, o, none⟩ = false := fun o => (k1.frozen (p := ⟨w.heap.size + 1, o, none⟩) (by simp) (fun q => q)).trans (by simp)
    have z0 := z 0
    have z1 := z 1
    have z2 := z 2
    have z3 := z 3
    have G1 := Lib.hid ((((Ke.refl (fun _ => False) w).alloc _).alloc _).trans k1)
    clear k1 z D
    have hb : w.heap.size ≤ w.heap.size + 1 := by omega
    generalize hB : w.heap.size + 1 = B at *
    go_wp2
    refine bodyPost_ret (v := V ⟨vd, vb, vg, vi⟩) (by simp [results, Try.results14, go_sem, *]) rfl ⟨rfl, ?_⟩
    repeat (first | exact G1.out | with_reducible refine Ke.set ?_ (.inr (by simp; omega)) _)
end Go.Proofs.Ytkapejgokcpbiaa
