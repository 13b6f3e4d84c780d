/- pick: a line in memory; the contract of put. -/
import Derived.Test.YtkapejgokcpbiaaT3
import Derived.Test.YtkapejgokcpbiaaN6
import Derived.Deep.RegionLaw
namespace Go.Proofs.Ytkapejgokcpbiaa
open Go.RowKit Go.Lib
set_option linter.unusedVariables false
set_option maxRecDepth 100000
set_option maxHeartbeats 2000000

theorem info68 : ∃ i, Try.prog.info? 68 = some i ∧ i.size = 1 ∧ i.bytes = 8 ∧ i.zero = some (.pointer none) := by
  have h1 : (Try.prog.info? 68).map (·.size) = some 1 := by kernel_rfl
  have h2 : (Try.prog.info? 68).map (·.bytes) = some 8 := by kernel_rfl
  have h3 : (Try.prog.info? 68).map (·.zero) = some (some (.pointer none)) := by kernel_rfl
  cases h : Try.prog.info? 68 with
  | none => rw [h] at h1; cases h1
  | some i =>
    rw [h] at h1 h2 h3
    exact ⟨i, rfl, by simpa using h1, by simpa using h2, by simpa using h3⟩
/-- The heaps' slice, made. -/
theorem heaps_more (w : World) (a : Addr) (v : Value) (h1 : v.oneCell' = true) (hc : w.cell? a = some v) :
    ∃ g cap w1, (Builtin.append_ #[55, 55] 55 #[.slice none 0 0, .slice (some a) 1 1]).run Try.prog w = .ok (.slice (some ⟨g, 0, none⟩) 1 cap) w1 ∧ w.grownBy w1 none ∧ w1.cell? ⟨g, 0, none⟩ = some v ∧ g = w.heap.size ∧ 1 ≤ cap := by
  obtain ⟨i, hi, q1, q2, q3⟩ := info68
  obtain ⟨v', w1, hr, ho, hg, ha⟩ := append_own_at (P := Try.prog) w w.heap.size 55 55 68 i _ 1 8 Try.underlying55 hi q3 q1 q2 rfl (by omega) (.slice none 0 0) 0 [] (World.ownsRow_nil _ _ _ _) a 1 1 [v] (by omega) rfl (fun j u hj => by
    rcases j with _ | j
    · cases hj; simpa [Addr.add] using hc
    · simp at hj) (by simpa using h1) (by unfold maxLen; omega) (by omega) (Nat.le_refl _)
  have r : Row w1 w.heap.size 68 1 v' 1 (fun _ => v) := by
    unfold Row
    simpa using ho
  obtain ⟨g, cap, rfl, bg, lg, nc, cm⟩ := r.form (by omega)
  refine ⟨g, cap, w1, hr, hg, r.cell 0 (by omega), ?_, nc⟩
  rcases ha with q | q
  · simp [Value.ownBlock] at q
  · simpa [Value.ownBlock] using q
/-- An append whose run is known, as one step of a region that draws. -/
theorem step_append_run {P : Program} {ops : Array Oper} {o : Oper} {a : Act} {w : World} {K : Act → World → Prop} {Q : Exit → Act → World → Prop} {X : Prop}
    (hg : o.guard = none) (s x : Operand) (t : TypeId) (hop : o.op = Op.call { callee := Callee.builtin Builtin.append, args := #[s, x], argTypes := #[t, t] })
    (vs vx : Value) (hs : a.eval s = vs) (hx : a.eval x = vx) (v' : Value) (w' : World) (hr : ∀ ty, (Builtin.append_ #[t, t] ty #[vs, vx]).run P w = .ok v' w') (hK : K (a.put o.dst v') w') :
    if Region.wanted o (yielded ops a.tmps) = true then Oper.wp P o a w K Q else X := by
  have hw : Region.wanted o (yielded ops a.tmps) = true := by simp [Region.wanted, hg]
  rw [if_pos hw]
  unfold Oper.wp execOp
  simp only [hop, resolve, invoke, builtin, Sem.run_bind, Sem.run_pure, Result.andThen_ok, List.map_toArray, List.map_cons, List.map_nil, hs, hx, hr]
  exact hK

/-- A heap by rank with nothing in it. -/
abbrev HO : Obj := .cells #[.int .i64 1, .slice none 0 0, .slice none 0 0] 79
theorem st_made (w : World) (base : Nat) (hb : base ≤ w.heap.size) : St (w.alloc HO) base w.heap.size 1 (fun g => g = w.heap.size) 0 (fun _ => none) := by
  refine ⟨.slice none 0 0, .slice none 0 0, fun _ => default, 0, fun _ => 0, mem_new w base hb 1 _ _, ?_, ?_, ?_, ?_⟩
  · exact ⟨fun i hi => by omega, fun i hi => by omega, fun i hi => by omega, fun x hx => by omega⟩
  · intro j h0 hj; omega
  · intro s r; simp
  · funext g; simp [Foot, Value.ownBlock]

/-- A line with nothing in it. -/
structure L0 (w : World) (base pl : Nat) : Prop where
  bp : base ≤ pl
  c0 : w.cell? ⟨pl, 0, none⟩ = some (.slice none 0 0)
  c1 : w.cell? ⟨pl, 1, none⟩ = some (.int .i64 0)
  fz : ∀ o, w.frozen? ⟨pl, o, none⟩ = false
/-- A line that n were put into: its one heap at block hp. -/
structure Ln (w : World) (base pl g cap hp : Nat) (n : Nat) (F : Nat → Prop) (m : Nat) (M : Nat → Option Rk) : Prop where
  bp : base ≤ pl
  bg : base ≤ g
  c0 : w.cell? ⟨pl, 0, none⟩ = some (.slice (some ⟨g, 0, none⟩) 1 cap)
  c1 : w.cell? ⟨pl, 1, none⟩ = some (.int .i64 n)
  cg : w.cell? ⟨g, 0, none⟩ = some (.pointer (some ⟨hp, 0, none⟩))
  fz : ∀ o, w.frozen? ⟨pl, o, none⟩ = false
  st : St w base hp 1 F m M
  pg : pl ≠ g
  fp : ¬ F pl
  fg : ¬ F g
def FootL (pl g : Nat) (F : Nat → Prop) (j : Nat) : Prop := j = pl ∨ j = g ∨ F j
section
variable {w w' : World} {base pl g cap hp n : Nat} {F F' : Nat → Prop} {m m' : Nat} {M M' : Nat → Option Rk}
theorem L0.lp (h : L0 w base pl) : pl < w.heap.size := lt_of_cell h.c0
theorem L0.gr (h : L0 w base pl) (k : Gr w w') : L0 w' base pl :=
  ⟨h.bp, gcell k h.c0, gcell k h.c1, fun o => (k.frozen (p := ⟨pl, o, none⟩) h.lp (fun q => q)).trans (h.fz o)⟩
theorem Ln.lp (h : Ln w base pl g cap hp n F m M) : pl < w.heap.size := lt_of_cell h.c0
theorem Ln.gl (h : Ln w base pl g cap hp n F m M) : g < w.heap.size := lt_of_cell h.cg
theorem Ln.lt (h : Ln w base pl g cap hp n F m M) {j : Nat} (hj : FootL pl g F j) : base ≤ j ∧ j < w.heap.size := by
  rcases hj with rfl | rfl | q
  · exact ⟨h.bp, h.lp⟩
  · exact ⟨h.bg, h.gl⟩
  · exact h.st.lt q
theorem Ln.ke {G : Nat → Prop} (h : Ln w base pl g cap hp n F m M) (k : Ke G w w') (hG : ∀ j, FootL pl g F j → ¬ G j) : Ln w' base pl g cap hp n F m M :=
  { h with
    c0 := (k.cell (p := ⟨pl, 0, none⟩) h.lp (hG _ (.inl rfl))).trans h.c0
    c1 := (k.cell (p := ⟨pl, 1, none⟩) h.lp (hG _ (.inl rfl))).trans h.c1
    cg := (k.cell (p := ⟨g, 0, none⟩) h.gl (hG _ (.inr (.inl rfl)))).trans h.cg
    fz := fun o => (k.frozen (p := ⟨pl, o, none⟩) h.lp (hG _ (.inl rfl))).trans (h.fz o)
    st := h.st.ke k (fun j hj => hG j (.inr (.inr hj))) }
theorem Ln.gr (h : Ln w base pl g cap hp n F m M) (k : Gr w w') : Ln w' base pl g cap hp n F m M := h.ke k (fun _ _ q => q)
/-- The heap turned. -/
theorem Ln.heap (h : Ln w base pl g cap hp n F m M) (s : St w' base hp 1 F' m' M') (v : Sv F F' w w') : Ln w' base pl g cap hp n F' m' M' :=
  { h with
    c0 := (v.ke.cell (p := ⟨pl, 0, none⟩) h.lp h.fp).trans h.c0
    c1 := (v.ke.cell (p := ⟨pl, 1, none⟩) h.lp h.fp).trans h.c1
    cg := (v.ke.cell (p := ⟨g, 0, none⟩) h.gl h.fg).trans h.cg
    fz := fun o => (v.ke.frozen (p := ⟨pl, o, none⟩) h.lp h.fp).trans (h.fz o)
    st := s
    fp := fun q => by
      rcases v.ft _ q with z | z
      · exact h.fp z
      · have := h.lp; omega
    fg := fun q => by
      rcases v.ft _ q with z | z
      · exact h.fg z
      · have := h.gl; omega }
/-- The count turned. -/
theorem Ln.count (h : Ln w base pl g cap hp n F m M) (x : Int) (n' : Nat) (hx : x = n') : Ln (w.setCell ⟨pl, 1, none⟩ (.int .i64 x)) base pl g cap hp n' F m M := by
  subst hx
  have k : Ke (fun j => j = pl) w (w.setCell ⟨pl, 1, none⟩ (.int .i64 n')) := (Ke.refl (fun j => j = pl) w).set (p := ⟨pl, 1, none⟩) (.inl rfl) _
  exact { h with
    c0 := (World.cell?_setCell_other w _ _ _ (fun q => by cases q)).trans h.c0
    c1 := World.cell?_setCell_same w _ _ h.c1
    cg := (k.cell (p := ⟨g, 0, none⟩) h.gl (fun q => h.pg q.symm)).trans h.cg
    fz := fun o => by simpa using h.fz o
    st := h.st.ke k (fun j hj q => by rw [q] at hj; exact h.fp hj) }
/-- What put leaves. -/
structure PutP (w : World) (base pl g cap hp n : Nat) (F : Nat → Prop) (m : Nat) (M : Nat → Option Rk) (r : Rk) (w' : World) : Prop where
  ex : ∃ F', Ln w' base pl g cap hp (n + 1) F' (m + 1) (upd M n (some r)) ∧ Ke (FootL pl g F) w w' ∧ ∀ j, FootL pl g F' j → FootL pl g F j ∨ w.heap.size ≤ j
theorem ln_put (h : Ln w base pl g cap hp n F m M) (hn : n < 65536) (hM : M n = none) (r : Rk) {W : World} (k : Gr w W) :
    Calls Try.prog 33 #[.pointer (some ⟨hp, 0, none⟩), .int .i64 n, V r] W fun e w' => e = .returned (.int .i64 0) ∧ w'.cell? ⟨pl, 1, none⟩ = some (.int .i64 n) ∧ w'.frozen? ⟨pl, 1, none⟩ = false ∧ Hid (PutP w base pl g cap hp n F m M r (w'.setCell ⟨pl, 1, none⟩ (.int .i64 ((n : Int) + 1)))) := by
  have h1 := h.gr k
  refine (st_put_new h1.st n hn r hM).mono ?_
  rintro e w' ⟨rfl, F', s, v⟩
  have h2 := h1.heap s v
  refine ⟨rfl, h2.c1, h2.fz 1, ⟨F', h2.count _ (n + 1) (by simp), ?_, ?_⟩⟩
  · have k1 : Ke (FootL pl g F) w w' := (Ke.of_gr k).trans (v.ke.mono (fun j _ q => .inr (.inr q)))
    exact k1.set (p := ⟨pl, 1, none⟩) (.inl (.inl rfl)) _
  · intro j hj
    rcases hj with q | q | q
    · exact .inl (.inl q)
    · exact .inl (.inr (.inl q))
    · rcases v.ft j q with z | z
      · exact .inl (.inr (.inr z))
      · exact .inr (by have := k.size; omega)

theorem put_more (h : Ln w base pl g cap hp n F m M) (h0 : 0 < n) (hn : n < 65536) (hM : M n = none) (r : Rk) :
    Calls Try.prog 24 #[.pointer (some ⟨pl, 0, none⟩), V r] w fun e w' => e = .returned (.tuple #[]) ∧ PutP w base pl g cap hp n F m M r w' := by
  have P := Lib.hid (fun W (k : Gr w W) => ln_put h hn hM r k)
  have c0 := h.c0
  have c1 := h.c1
  have cg := h.cg
  have e1 : (n : Int) % 65536 = n := by omega
  have e2 : Int.tmod (n : Int) 65536 = n := by rw [Int.tmod_eq_emod_of_nonneg (by omega)]; exact e1
  have dn : ((n : Int) == 0) = false := by simp; omega
  have hz : (n : Int) < 65536 := by omega
  have hz0 : 0 < (n : Int) := by omega
  have hp0 := h.lp
  have hg0 := h.gl
  clear h hM
  obtain ⟨vd, vb, vg, vi⟩ := r
  go_enter Try.func24, Try.ntmps24
  go_upto_region 4 with fail
  obtain ⟨w5, hw5⟩ : ∃ w5, w5 = w.alloc (.cells #[.int .i64 vd, .int .i64 vb, .int .i64 vg, .int .i64 vi] 32) := ⟨_, rfl⟩
  have g5 : Gr w w5 := by rw [hw5]; exact (Ke.refl _ _).alloc _
  have k0 := gw_cell (show w5.cell? ⟨w.heap.size, 0, none⟩ = some (.int .i64 vd) by rw [hw5]; simp [go_sem])
  have k1 := gw_cell (show w5.cell? ⟨w.heap.size, 1, none⟩ = some (.int .i64 vb) by rw [hw5]; simp [go_sem])
  have k2 := gw_cell (show w5.cell? ⟨w.heap.size, 2, none⟩ = some (.int .i64 vg) by rw [hw5]; simp [go_sem])
  have k3 := gw_cell (show w5.cell? ⟨w.heap.size, 3, none⟩ = some (.int .i64 vi) by rw [hw5]; simp [go_sem])
  have k4 := gw_cell (gcell g5 c0)
  have k5 := gw_cell (gcell g5 cg)
  rw [← hw5]
  have G5 := Lib.hid g5
  clear hw5 g5 c0 c1 cg
  have hne : Nonempty (GW w5) := ⟨⟨w5, Ke.refl _ _⟩⟩
  have hself := @gw_self w5
  have hself' : ∀ p : GW w5, ∃ q : GW w5, q.W = p.W := fun p => ⟨p, rfl⟩
  refine wp_region_gw_tail 14 (by first | assumption | kernel_rfl) (by kernel_rfl) ?_
  simp only [List.take_succ_cons, List.take_zero, List.drop_succ_cons, List.drop_zero]
  repeat (go_big_quiet_step (fail))
  refine wpQuiet_nil ?_
  intro _ hw'
  obtain ⟨pp, hw''⟩ := hw'
  subst hw''
  have G6 := Lib.hid (G5.out.trans pp.gr)
  clear k0 k1 k2 k3 k4 k5 hne hself hself' G5
  generalize pp.W = w6 at *
  clear pp
  go_wp2_with fail
  refine (P.out _ G6.out).mono ?_
  rintro e w7 ⟨rfl, c1, z1, Q⟩
  clear P G6
  go_wp2
  go_end0
  exact ⟨rfl, Q.out⟩
/-- What the first put leaves. -/
def Put0 (w : World) (base pl : Nat) (r : Rk) (w' : World) : Prop := ∃ g cap hp F, Ln w' base pl g cap hp 1 F 1 (upd (fun _ => none) 0 (some r)) ∧ Ke (fun j => j = pl) w w' ∧ ∀ j, FootL pl g F j → j = pl ∨ w.heap.size ≤ j
/-- The list of heaps laid. -/
theorem line_laid {W w3 : World} {cap : Nat} (h : L0 W base pl) (hb : base ≤ W.heap.size)
    (hg : ((W.alloc HO).alloc (.cells #[.pointer (some ⟨W.heap.size, 0, none⟩)] 68)).drew.grownBy w3 none) (g : Nat) (eg : g = W.heap.size + 1 + 1) (cg : w3.cell? ⟨g, 0, none⟩ = some (.pointer (some ⟨W.heap.size, 0, none⟩))) :
    Ln (w3.setCell ⟨pl, 0, none⟩ (.slice (some ⟨g, 0, none⟩) 1 cap)) base pl g cap W.heap.size 0 (fun k => k = W.heap.size) 0 (fun _ => none) ∧ Ke (fun j => j = pl) W (w3.setCell ⟨pl, 0, none⟩ (.slice (some ⟨g, 0, none⟩) 1 cap)) := by
  have hpl := h.lp
  have gX : Gr (W.alloc HO) w3 := (((Ke.refl _ _).alloc _).drew).grown hg (fun k e => by cases e)
  have gW : Gr W w3 := ((Ke.refl _ W).alloc _).trans gX
  have s0 : St w3 base W.heap.size 1 (fun k => k = W.heap.size) 0 (fun _ => none) := (st_made W base hb).gr gX
  have h3 := h.gr gW
  have k3 : Ke (fun k => k = pl) w3 (w3.setCell ⟨pl, 0, none⟩ (.slice (some ⟨g, 0, none⟩) 1 cap)) := (Ke.refl (fun k => k = pl) w3).set (p := ⟨pl, 0, none⟩) (.inl rfl) _
  refine ⟨?_, (Ke.of_gr gW).trans k3⟩
  exact {
    bp := h.bp
    bg := by omega
    c0 := World.cell?_setCell_same w3 _ _ h3.c0
    c1 := (World.cell?_setCell_other w3 _ _ _ (fun q => by cases q)).trans h3.c1
    cg := (World.cell?_setCell_other w3 _ _ _ (fun q => by have : pl = g := congrArg Addr.block q; omega)).trans cg
    fz := fun o => by simpa using h3.fz o
    st := s0.ke k3 (fun j e q => by omega)
    pg := by omega
    fp := by omega
    fg := by omega }
theorem put_first (h : L0 w base pl) (hb : base ≤ w.heap.size) (r : Rk) : Calls Try.prog 24 #[.pointer (some ⟨pl, 0, none⟩), V r] w fun e w' => e = .returned (.tuple #[]) ∧ Put0 w base pl r w' := by
  have N1 := Lib.hid (fun W => new_any W 1)
  obtain ⟨vd, vb, vg, vi⟩ := r
  obtain ⟨w5, hw5⟩ : ∃ w5, w5 = w.alloc (.cells #[.int .i64 vd, .int .i64 vb, .int .i64 vg, .int .i64 vi] 32) := ⟨_, rfl⟩
  have g5 : Gr w w5 := by rw [hw5]; exact (Ke.refl _ _).alloc _
  have H5 := h.gr g5
  have c0 := H5.c0
  have c1 := H5.c1
  have z0 := H5.fz 0
  have hlp := H5.lp
  have q0 := (show w5.cell? ⟨w.heap.size, 0, none⟩ = some (.int .i64 vd) by rw [hw5]; simp [go_sem])
  have q1 := (show w5.cell? ⟨w.heap.size, 1, none⟩ = some (.int .i64 vb) by rw [hw5]; simp [go_sem])
  have q2 := (show w5.cell? ⟨w.heap.size, 2, none⟩ = some (.int .i64 vg) by rw [hw5]; simp [go_sem])
  have q3 := (show w5.cell? ⟨w.heap.size, 3, none⟩ = some (.int .i64 vi) by rw [hw5]; simp [go_sem])
  have HW := Lib.hid hw5
  have G5 := Lib.hid g5
  have HH := Lib.hid H5
  have hnp : w.heap.size ≠ pl := fun e => by have := h.lp; omega
  have HN := Lib.hid hnp
  have HB := Lib.hid (Nat.le_trans hb g5.size)
  have d1 := gcell g5 h.c1
  have l5 : w.heap.size < w5.heap.size := lt_of_cell q0
  obtain ⟨g, cap, w3, hr, hg, cg, eg, hc⟩ := heaps_more ((w5.alloc HO).alloc (.cells #[.pointer (some ⟨w5.heap.size, 0, none⟩)] 68)).drew ⟨w5.heap.size + 1, 0, none⟩ (.pointer (some ⟨w5.heap.size, 0, none⟩)) rfl (by simp [go_sem])
  have HR : Hid (∀ ty, (Builtin.append_ #[55, 55] ty #[.slice none 0 0, .slice (some ⟨w5.heap.size + 1, 0, none⟩) 1 1]).run Try.prog ((w5.alloc HO).alloc (.cells #[.pointer (some ⟨w5.heap.size, 0, none⟩)] 68)).drew = .ok (.slice (some ⟨g, 0, none⟩) 1 cap) w3) := fun ty => hr
  have gX : Gr w5 w3 := ((((Ke.refl _ w5).alloc _).alloc _).drew).grown hg (fun k e => by cases e)
  have c0' := gcell gX c0
  have z0' := (gX.frozen (p := ⟨pl, 0, none⟩) hlp (fun q => q)).trans z0
  have LL := Lib.hid (line_laid (cap := cap) H5 HB.out hg g (by simpa using eg) cg)
  have h1 := h.c1
  have hp0 := h.lp
  obtain ⟨W2, hW2⟩ : ∃ W2, W2 = w3.setCell ⟨pl, 0, none⟩ (.slice (some ⟨g, 0, none⟩) 1 cap) := ⟨_, rfl⟩
  have L2 := LL.out.1
  have K2 := LL.out.2
  rw [← hW2] at L2 K2
  have HW2 := Lib.hid hW2
  have k0 := gw_cell ((K2.cell (p := ⟨w.heap.size, 0, none⟩) l5 hnp).trans q0)
  have k1 := gw_cell ((K2.cell (p := ⟨w.heap.size, 1, none⟩) l5 hnp).trans q1)
  have k2 := gw_cell ((K2.cell (p := ⟨w.heap.size, 2, none⟩) l5 hnp).trans q2)
  have k3 := gw_cell ((K2.cell (p := ⟨w.heap.size, 3, none⟩) l5 hnp).trans q3)
  have k4 := gw_cell L2.c0
  have k5 := gw_cell L2.cg
  have P : Hid (∀ W, Gr W2 W → Calls Try.prog 33 #[.pointer (some ⟨w5.heap.size, 0, none⟩), .int .i64 0, V ⟨vd, vb, vg, vi⟩] W fun e w' => e = .returned (.int .i64 0) ∧ w'.cell? ⟨pl, 1, none⟩ = some (.int .i64 0) ∧ w'.frozen? ⟨pl, 1, none⟩ = false ∧ Hid (Put0 w base pl ⟨vd, vb, vg, vi⟩ (w'.setCell ⟨pl, 1, none⟩ (.int .i64 1)))) := fun W k => by
    refine (ln_put L2 (by omega) rfl ⟨vd, vb, vg, vi⟩ k).mono ?_
    rintro e w' ⟨rfl, a1, a2, F', a3, a4, a5⟩
    refine ⟨rfl, a1, a2, ⟨g, cap, _, F', a3, ?_, ?_⟩⟩
    · have k7 : Ke (fun j => j = pl) w W2 := (Ke.of_gr g5).trans K2
      refine k7.comp a4 (fun j hj q => ?_)
      rcases q with q | q | q
      · exact q
      · have : w5.heap.size = w.heap.size + 1 := by rw [hw5]; simp
        simp at eg
        omega
      · have : w5.heap.size = w.heap.size + 1 := by rw [hw5]; simp
        omega
    · intro j hj
      have s5 : w5.heap.size = w.heap.size + 1 := by rw [hw5]; simp
      have s2 := K2.size
      simp at eg
      rcases a5 j hj with q | q
      · rcases q with q | q | q
        · exact .inl q
        · exact .inr (by omega)
        · exact .inr (by omega)
      · exact .inr (by omega)
  have hne : Nonempty (GW W2) := ⟨⟨W2, Ke.refl _ _⟩⟩
  have hself := @gw_self W2
  have hself' : ∀ p : GW W2, ∃ q : GW W2, q.W = p.W := fun p => ⟨p, rfl⟩
  have HWW := Lib.hid hW2.symm
  clear L2 K2 hW2 LL q0 q1 q2 q3 d1 l5 hnp HH HW2
  clear h hb hw5 g5 H5 hr hg cg eg hc gX
  have e5 := HW.out
  go_enter Try.func24, Try.ntmps24
  go_upto_region 3 with fail
  rw [← e5]
  clear e5
  go_region_law (first | (go_simp; refine (N1.out _).mono ?_; rintro e w5 ⟨rfl, hw⟩; obtain rfl := hw; dsimp only) | refine step_append_run rfl (.tmp 16) (.tmp 18) 55 rfl _ _ rfl rfl _ _ HR.out ?_)
  all_goals
    rw [HWW.out]
    clear HR HWW c0 c1 z0 c0' z0' N1 HN HB h1 hp0 hlp
    go_upto_region 4 with fail
    refine wp_region_gw_tail 14 (by first | assumption | kernel_rfl) (by kernel_rfl) ?_
    simp only [List.take_succ_cons, List.take_zero, List.drop_succ_cons, List.drop_zero]
    repeat (go_big_quiet_step (fail))
    refine wpQuiet_nil ?_
    intro _ hw'
    obtain ⟨pp, hw''⟩ := hw'
    subst hw''
    have G6 := Lib.hid pp.gr
    clear k0 k1 k2 k3 k4 k5 hne hself hself'
    generalize pp.W = w6 at *
    clear pp
    go_wp2_with fail
    refine (P.out _ G6.out).mono ?_
    rintro e w7 ⟨rfl, c1, z1, Q⟩
    clear P G6
    go_wp2
    go_end0
    exact ⟨rfl, Q.out⟩
end
end Go.Proofs.Ytkapejgokcpbiaa
