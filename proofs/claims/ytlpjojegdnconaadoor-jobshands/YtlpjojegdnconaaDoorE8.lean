/- The chains of a calendar: contract of add; the chains as the calendar uses them. -/
import Derived.Test.YtlpjojegdnconaaDoorD8
import Derived.Deep.RegionHeld3
import Derived.Laws.MakeOwn
import Derived.WalkSpells
namespace Go.Proofs.YtlpjojegdnconaaDoor.Ca
open Go.RowKit Go.Lib Go.Maps
set_option linter.unusedVariables false
set_option maxRecDepth 100000

/-- Chains that were never used. -/
structure NilC (w : World) (base : Bs) (p c : Nat) : Prop where
  bp : base ≤ p
  c6 : c ≤ 65536
  c0 : w.cell? ⟨p, 68, none⟩ = some (.map none)
  c1 : w.cell? ⟨p, 69, none⟩ = some (.slice none 0 0)
  c2 : w.cell? ⟨p, 70, none⟩ = some (.int .i64 0)
  fz : ∀ o, w.frozen? ⟨p, o, none⟩ = false
  lo : ∀ o, o < 68 → w.cell? ⟨p, o, none⟩ = base.lo o
/-- Chains that are used. -/
structure UsC (w : World) (base : Bs) (p c : Nat) (F : Nat → Prop) (own : Nat → Option Int) : Prop where
  ex : ∃ b lk N free P X H D rk R FL, Cm w base p b lk N free P X H D c ∧ ChI N P X free H own rk R FL ∧ F = FootC p b lk
  wf : ∀ m i, own m = some i → (Lit.int .i64 i).wf = true
/-- What turned of a block's further cells: nothing. -/
def Rest (p : Nat) (w w' : World) : Prop := ∀ o, (o < 68 ∨ 71 ≤ o) → w'.cell? ⟨p, o, none⟩ = w.cell? ⟨p, o, none⟩
theorem Rest.trans {p : Nat} {a b c : World} (h : Rest p a b) (k : Rest p b c) : Rest p a c := fun o ho => (k o ho).trans (h o ho)
theorem Rest.of_block {p : Nat} {a b : World} (h : b.heap[p]? = a.heap[p]?) : Rest p a b := fun o _ => same_rest h o

theorem make124 (w : World) : (Instr.makeSlice 72 (.int .i64 1) (.int .i64 1)).run Tryd.prog w = .ok (.slice (some ⟨w.heap.size, 0, none⟩) 1 1) (w.alloc (.cells #[.int .i64 0, .int .i64 0] 124)) := by
  obtain ⟨i, hi, h1, h2, h3⟩ := info124
  have h := run_make w 72 124 i _ Tryd.underlying72 hi h3 .i64 .i64 1 1 (by omega) (by omega) (by rw [h2]; omega) (by omega)
  rw [h1] at h
  have e : madeCells (Value.agg #[Value.int IntKind.i64 0, Value.int IntKind.i64 0]).cells (Int.toNat 1 * 2) = #[.int .i64 0, .int .i64 0] := by kernel_rfl
  rw [e] at h
  exact h

/-- Behind the first sentence of add: the chains are used. -/
structure AddM (w : World) (base : Bs) (p c : Nat) (F : Nat → Prop) (own : Nat → Option Int) (wx : World) : Prop where
  ex : ∃ F', UsC wx base p c F' own ∧ Sv F F' w wx
  rest : Rest p w wx

theorem start_cm {w W : World} {base : Bs} {p c b g : Nat} (h : NilC w base p c) (hw : base ≤ w.heap.size) (hb : w.heap.size ≤ b) (hg : w.heap.size ≤ g) (hbg : b ≠ g) (os : W.os = w.os) (tape : W.tape = w.tape) (output : W.output = w.output) (size : w.heap.size ≤ W.heap.size)
    (hk : ∀ k, k < w.heap.size → W.heap[k]? = ((w.setCell ⟨p, 68, none⟩ (.map (some b))).setCell ⟨p, 69, none⟩ (.slice (some ⟨g, 0, none⟩) 1 1)).heap[k]?)
    (eb : W.heap[b]? = some (.map #[] 0)) (eg : W.heap[g]? = some (.cells #[.int .i64 0, .int .i64 0] 124 (0, 0))) : AddM w base p c (fun k => k = p) (fun _ => none) W := by
  have pl : p < w.heap.size := lt_of_cell h.c0
  have ep := hk p pl
  have s0 : (w.setCell ⟨p, 68, none⟩ (.map (some b))).cell? ⟨p, 69, none⟩ = some (.slice none 0 0) := (World.cell?_setCell_other w _ _ _ (fun q => by cases q)).trans h.c1
  have own : W.ownsMap Tryd.prog 3 (plainElem Tryd.prog 3) b 0 (.map [] : DataW Unit) := by
    obtain ⟨es, cl, h1, h2⟩ := World.ownsMap_made (H := Unit) w Tryd.prog 3 (plainElem Tryd.prog 3)
    rw [heap_alloc_new] at h1
    cases h1
    exact ⟨_, _, eb, h2⟩
  have row : Row W base 124 2 (.slice (some ⟨g, 0, none⟩) 1 1) 1 (lc (fun _ => 0) (fun _ => 0)) := by
    refine ⟨by simp, .inr ⟨g, 1, _, rfl, by omega, eg, by omega, by unfold maxLen; omega, by simp, ?_⟩⟩
    simp [List.range_succ, lc]
  have cm : Cm W base p b (.slice (some ⟨g, 0, none⟩) 1 1) 1 0 (fun _ => 0) (fun _ => 0) (fun _ => 0) (.map []) c := {
    bp := h.bp, bb := by omega, nc := by omega, c6 := h.c6
    c0 := (World.cell?_of_block (a := ⟨p, 68, none⟩) ep).trans ((World.cell?_setCell_other _ _ _ _ (fun q => by cases q)).trans (World.cell?_setCell_same w _ _ h.c0))
    c1 := (World.cell?_of_block (a := ⟨p, 69, none⟩) ep).trans (World.cell?_setCell_same _ _ _ s0)
    c2 := (World.cell?_of_block (a := ⟨p, 70, none⟩) ep).trans ((World.cell?_setCell_other _ _ _ _ (fun q => by cases q)).trans ((World.cell?_setCell_other w _ _ _ (fun q => by cases q)).trans h.c2))
    fz := fun o => (World.frozen?_of_block (a := ⟨p, o, none⟩) ep).trans (by simpa using h.fz o)
    lo := fun o ho => (World.cell?_of_block (a := ⟨p, o, none⟩) ep).trans ((World.cell?_setCell_other _ _ _ _ (fun q => by cases q; omega)).trans ((World.cell?_setCell_other w _ _ _ (fun q => by cases q; omega)).trans (h.lo o ho)))
    row := row, own := own, map := MapH.start, sz := by simp [Maps.size]
    pb := by omega, lp := by simp [Value.ownBlock]; omega, lb := by simp [Value.ownBlock]; omega }
  refine ⟨⟨_, ⟨⟨b, _, 1, 0, _, _, _, _, _, _, _, cm, ChI.start, rfl⟩, fun m i q => (by cases q)⟩, ⟨⟨os, tape, output, size, fun k hk' hn => ?_⟩, fun x hx => ?_⟩⟩, fun o ho => ?_⟩
  · rw [hk k hk', blk_other _ _ _ _ _ hn, blk_other _ _ _ _ _ hn]
  · rcases hx with e | e | e
    · exact .inl e
    · exact .inr (by omega)
    · have : g = x := by simpa [Value.ownBlock] using e
      exact .inr (by omega)
  · exact (World.cell?_of_block (a := ⟨p, o, none⟩) ep).trans ((setP_rest _ p 69 (by omega) _ o ho).trans (setP_rest _ p 68 (by omega) _ o ho))

/-- What add leaves. -/
structure AdP (w : World) (base : Bs) (p c : Nat) (F : Nat → Prop) (own : Nat → Option Int) (i : Int) (m : Nat) (w' : World) : Prop where
  ex : ∃ F', UsC w' base p (c + 1) F' (upd own m (some i)) ∧ Sv F F' w w'
  pos : 0 < m
  lt : m ≤ c + 1
  no : own m = none
  rest : Rest p w w'
def AddQ (w : World) (base : Bs) (p c : Nat) (F : Nat → Prop) (own : Nat → Option Int) (i : Int) (e : Ending) (w' : World) : Prop := ∃ m : Nat, e = .returned (.int .i64 m) ∧ AdP w base p c F own i m w'

/-- Chains, used or not. -/
def Chn (w : World) (base : Bs) (p c : Nat) (F : Nat → Prop) (own : Nat → Option Int) : Prop := (NilC w base p c ∧ own = (fun _ => none) ∧ F = fun k => k = p) ∨ UsC w base p c F own

set_option maxHeartbeats 1000000 in
theorem add_any (w : World) (base : Bs) (p c : Nat) (F : Nat → Prop) (own : Nat → Option Int) (h : Chn w base p c F own) (hw : base ≤ w.heap.size) (hc : c + 1 ≤ 65536) (i : Int) (hi : (Lit.int .i64 i).wf = true) :
    Calls Tryd.prog 60 #[.pointer (some ⟨p, 68, none⟩), .int .i64 i] w fun e w' => AddQ w base p c F own i e w' := by
  have q40 : ∀ (w : World) (r : Option Nat), (binOp .eql 62 (.map r) (.map none)).run Tryd.prog w = .ok (.bool r.isNone) w := fun w r => run_eql_map_nil w _ _ _ r Tryd.underlying62
  have HC := Lib.hid h
  have c00 : ∃ v, w.cell? ⟨p, 68, none⟩ = some (.map v) := by
    rcases h with ⟨h, _, _⟩ | h
    · exact ⟨_, h.c0⟩
    · obtain ⟨b, lk, N, free, P, X, H, D, rk, R, FL, cm, _⟩ := h.ex
      exact ⟨_, cm.c0⟩
  obtain ⟨v0, c0⟩ := c00
  have HI := Lib.hid hi
  clear h hi
  go_enter Tryd.func60, Tryd.ntmps60
  go_upto_if 11 with fail
  go_cut [11] (fun s11 wx => AddM w base p c F own wx)
  case first =>
    rcases HC.out with ⟨h, rfl, rfl⟩ | h
    · have hv : v0 = none := by
        have := h.c0
        rw [c0] at this
        cases this
        rfl
      subst hv
      have c1 := h.c1
      have c2 := h.c2
      have z0 := h.fz 68
      have z1 := h.fz 69
      have pl := lt_of_cell c0
      simp only at pl
      have hmm := @run_makeMap Tryd.prog
      have mk := make124
      have HN := Lib.hid h
      clear h HC
      go_wp2_with fail
      go_region
      · go_wp2_with fail
        go_meet
        case rel =>
          refine start_cm (b := w.heap.size) (g := w.heap.size + 1) HN.out hw (Nat.le_refl _) (by omega) (by omega) rfl rfl rfl (by simp [World.setCell]; omega) (fun k hk => ?_) ?_ ?_
          · exact (Below.heap_alloc _ _ k (by simp [World.setCell]; omega)).trans (Below.heap_alloc _ _ k (by simpa [World.setCell] using hk))
          · have e1 := heap_alloc_new ((w.setCell ⟨p, 68, none⟩ (.map (some w.heap.size))).setCell ⟨p, 69, none⟩ (.slice (some ⟨w.heap.size + 1, 0, none⟩) 1 1)) (.map #[] 0)
            have e2 : ((w.setCell ⟨p, 68, none⟩ (.map (some w.heap.size))).setCell ⟨p, 69, none⟩ (.slice (some ⟨w.heap.size + 1, 0, none⟩) 1 1)).heap.size = w.heap.size := by simp [World.setCell]
            rw [e2] at e1
            exact (Below.heap_alloc _ _ w.heap.size (by simp [e2])).trans e1
          · have e1 := heap_alloc_new (((w.setCell ⟨p, 68, none⟩ (.map (some w.heap.size))).setCell ⟨p, 69, none⟩ (.slice (some ⟨w.heap.size + 1, 0, none⟩) 1 1)).alloc (.map #[] 0)) (.cells #[.int .i64 0, .int .i64 0] 124)
            have e2 : (((w.setCell ⟨p, 68, none⟩ (.map (some w.heap.size))).setCell ⟨p, 69, none⟩ (.slice (some ⟨w.heap.size + 1, 0, none⟩) 1 1)).alloc (.map #[] 0)).heap.size = w.heap.size + 1 := by simp [World.setCell]
            rw [e2] at e1
            exact e1
      · go_wp2_with fail
        go_meet
        case rel =>
          refine start_cm (b := w.heap.size + 1) (g := w.heap.size) HN.out hw (by omega) (Nat.le_refl _) (by omega) rfl rfl rfl (by simp [World.setCell]; omega) (fun k hk => ?_) ?_ ?_
          · exact (Below.heap_alloc _ _ k (by simp [World.setCell]; omega)).trans (Below.heap_alloc _ _ k (by simpa [World.setCell] using hk))
          · have e1 := heap_alloc_new (((w.setCell ⟨p, 68, none⟩ (.map (some (w.heap.size + 1)))).setCell ⟨p, 69, none⟩ (.slice (some ⟨w.heap.size, 0, none⟩) 1 1)).alloc (.cells #[.int .i64 0, .int .i64 0] 124)) (.map #[] 0)
            have e2 : (((w.setCell ⟨p, 68, none⟩ (.map (some (w.heap.size + 1)))).setCell ⟨p, 69, none⟩ (.slice (some ⟨w.heap.size, 0, none⟩) 1 1)).alloc (.cells #[.int .i64 0, .int .i64 0] 124)).heap.size = w.heap.size + 1 := by simp [World.setCell]
            rw [e2] at e1
            exact e1
          · have e1 := heap_alloc_new ((w.setCell ⟨p, 68, none⟩ (.map (some (w.heap.size + 1)))).setCell ⟨p, 69, none⟩ (.slice (some ⟨w.heap.size, 0, none⟩) 1 1)) (.cells #[.int .i64 0, .int .i64 0] 124)
            have e2 : ((w.setCell ⟨p, 68, none⟩ (.map (some (w.heap.size + 1)))).setCell ⟨p, 69, none⟩ (.slice (some ⟨w.heap.size, 0, none⟩) 1 1)).heap.size = w.heap.size := by simp [World.setCell]
            rw [e2] at e1
            exact (Below.heap_alloc _ _ w.heap.size (by simp [e2])).trans e1
    · have hv : ∃ b, v0 = some b := by
        obtain ⟨b, lk, N, free, P, X, H, D, rk, R, FL, cm, _⟩ := h.ex
        have := cm.c0
        rw [c0] at this
        cases this
        exact ⟨b, rfl⟩
      obtain ⟨b, rfl⟩ := hv
      have HN := Lib.hid h
      clear h HC
      go_wp2_with fail
      go_meet
      case rel => exact ⟨⟨F, HN.out, Sv.refl _ _⟩, fun _ _ => rfl⟩
  case rest =>
    clear c0 HC
    have HM := Lib.hid hcut
    obtain ⟨⟨F1, us, sv⟩, rs⟩ := hcut
    have WF := Lib.hid us.wf
    obtain ⟨b, lk, N, free, P, X, H, D, rk, R, FL, cm, ci, hF⟩ := us.ex
    have SV := Lib.hid sv
    have RS := Lib.hid rs
    have HF := Lib.hid hF
    clear us sv rs hF
    have kc0 : wc.drew.cell? ⟨p, 68, none⟩ = some (.map (some b)) := cm.c0
    have LK : ∀ W : World, W.heap[b]? = wc.heap[b]? → (Instr.lookup 62 (.map (some b)) (.int .i64 i) false).run Tryd.prog W = .ok (.int .i64 (H i)) W := fun W e => by
      obtain ⟨x, h1, h2, h3⟩ := (ownsMap_keep cm.own e).lookup_int law3 Tryd.underlying62 Tryd.underlying3 (zero3 W) (keyOf_int_mk Tryd.underlying3 HI.out)
      rw [cm.map.at_ i] at h2
      cases h2
      exact h1
    have kl0 := LK wc.drew rfl
    have HL := Lib.hid LK
    have CT := Lib.hid (take_any wc.drew base p b lk N free P X H D c own rk R FL (cm.gr (Ke.refl _ _).drew) ci hc)
    have CMc := Lib.hid cm
    have hH := ci.hlt i
    obtain ⟨mark, hmk⟩ : ∃ mark, tk N free = mark := ⟨_, rfl⟩
    rw [hmk] at CT
    obtain ⟨hd, hhd⟩ : ∃ hd, H i = hd := ⟨_, rfl⟩
    rw [hhd] at kl0 hH
    have EH := Lib.hid hhd
    clear cm ci LK hmk hhd
    go_upto_region 3 with fail
    go_region_held3 (fun w' => w'.cell? ⟨p, 68, none⟩ = some (.map (some b)) ∧ (Instr.lookup 62 (.map (some b)) (.int .i64 i) false).run Tryd.prog w' = .ok (.int .i64 hd) w')
      (with_reducible first | exact ⟨kc0, kl0⟩ | exact ⟨kc1, kl1⟩)
      (first | (go_at_call 79; refine CT.out.mono ?_; rintro e w1 ⟨rfl, T1⟩; have kc1 := T1.head.trans kc0; have kl1 := HL.out w1 T1.map; rw [EH.out] at kl1; have TT := Lib.hid T1; clear T1))
    all_goals
      obtain ⟨lk1, N1, free1, P1, X1, FL1, cm1, ci1, nf1, lt1, ft1⟩ := TT.out.ex
      have hH1 := ci1.hlt i
      have hne : H i ≠ mark := fun e => by
        have hp := TT.out.pos
        have := (ci1.h1 i (by omega)).1
        rw [e, TT.out.no] at this
        cases this
      rw [EH.out] at hH1 hne
      have hnc1 := cm1.nc
      have hc61 := cm1.c6
      obtain ⟨g, cap, rfl, bg, lg, nc, cm'⟩ := cm1.row.form (by omega)
      have d1 := cm1.c1
      obtain ⟨q0, q1⟩ := link_cells cm1.row mark lt1
      obtain ⟨r0, r1⟩ := link_cells cm1.row hd hH1
      have x0 := cm1.row.frozen (mark * 2)
      have x1 := cm1.row.frozen (mark * 2 + 1)
      have x2 := cm1.row.frozen (hd * 2)
      have hgp : ¬ g = p := fun e => cm1.lp (by simp [Value.ownBlock, e])
      have C1 := Lib.hid cm1
      have I1 := Lib.hid ci1
      have FT := Lib.hid ft1
      have hmz : (mark : Int) < (N1 : Int) := by omega
      have hhz : (hd : Int) < (N1 : Int) := by omega
      have hn2 : ¬ hd * 2 = mark * 2 := by omega
      have hn3 : ¬ hd * 2 = mark * 2 + 1 := by omega
      have C2 := Lib.hid (((C1.out.setP mark 0 (y := 0) rfl).setX mark hd (y := (hd : Int)) rfl).setP hd mark (y := (mark : Int)) rfl)
      have OW := Lib.hid C2.out.own
      have hsz : Maps.size D < maxLen := by have := cm1.sz; unfold maxLen; omega
      have SZ : Hid (Maps.size D ≤ c) := CMc.out.sz
      clear cm1 ci1 ft1 kl0 kc0 kl1 CT
      go_wp2_with (at_mapUpdate; refine wpList_mapUpdate_in _ rfl _ _ _ 62 rfl 3 3 law3 Tryd.underlying62 _ b (Maps.size D) D rfl OW.out hsz _ _ _ rfl rfl (keyOf_int_mk Tryd.underlying3 HI.out) _ [] (plainElem_int Tryd.underlying3 (WalkArith.wf_i64 (by omega))) ?_; intro w5 own5 turn5)
      go_ret
      have hm0 := TT.out.pos
      have cmF := C2.out.setM turn5 own5 (C2.out.map.put C2.out.own.isMap i (m := mark) (by omega)) (by
        rw [size_put (C2.out.own.tidy law3)]
        have := SZ.out
        split <;> omega)
      have ciF := I1.out.add hm0 lt1 TT.out.no nf1 i
      rw [EH.out] at ciF
      have Fg : FootC p b (.slice (some ⟨g, 0, none⟩) N1 cap) g := .inr (.inr rfl)
      have K5 : Ke (FootC p b (.slice (some ⟨g, 0, none⟩) N1 cap)) w1 w5 := ((((Ke.refl _ w1).set (p := ⟨g, mark * 2, none⟩) (.inl Fg) _).set (p := ⟨g, mark * 2 + 1, none⟩) (.inl Fg) _).set (p := ⟨g, hd * 2, none⟩) (.inl Fg) _).trans (turned_ke turn5 (.inr (.inl rfl)))
      have S2 : Sv F1 (FootC p b (.slice (some ⟨g, 0, none⟩) N1 cap)) wc w1 := by
        rw [HF.out]
        exact ⟨((Ke.refl _ wc).drew).trans TT.out.ke, FT.out⟩
      have ep : w5.heap[p]? = w1.heap[p]? := (turn5.grown.block p (by simpa [World.setCell] using C1.out.pl) (by simpa using C1.out.pb)).trans ((blk_other _ _ _ _ _ (fun e => hgp e.symm)).trans ((blk_other _ _ _ _ _ (fun e => hgp e.symm)).trans (blk_other _ _ _ _ _ (fun e => hgp e.symm))))
      refine ⟨mark, rfl, ⟨_, ⟨⟨b, _, N1, free1, _, _, _, _, _, _, _, cmF, ciF, rfl⟩, fun m j hm => ?_⟩, (SV.out.trans S2).trans ⟨K5, fun x hx => .inl hx⟩⟩, hm0, by omega, TT.out.no, (RS.out.trans (fun o ho => TT.out.rest o ho)).trans (Rest.of_block ep)⟩
      by_cases e : m = mark
      · subst e
        rw [upd_same] at hm
        cases hm
        exact HI.out
      · rw [upd_other _ _ e] at hm
        exact WF.out m j hm
end Go.Proofs.YtlpjojegdnconaaDoor.Ca
