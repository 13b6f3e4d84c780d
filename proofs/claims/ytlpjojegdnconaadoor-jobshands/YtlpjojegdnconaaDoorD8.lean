/- The chains of a calendar: contract of remove. -/
import Derived.Test.YtlpjojegdnconaaDoorC8
import Derived.Deep.DeepCutAuto
import Derived.Deep.CutBlock
namespace Go.Proofs.YtlpjojegdnconaaDoor.Ca
open Go.RowKit Go.Lib Go.Maps
set_option linter.unusedVariables false
set_option maxRecDepth 100000

/-- What remove leaves. -/
structure RmP (w : World) (base : Bs) (p b : Nat) (lk : Value) (N : Nat) (c : Nat) (own : Nat → Option Int) (rk : Nat → Nat) (R m : Nat) (w' : World) : Prop where
  ex : ∃ free' P' X' H' D' FL', Cm w' base p b lk N free' P' X' H' D' c ∧ ChI N P' X' free' H' (upd own m none) rk R FL'
  ke : Ke (FootC p b lk) w w'
  rest : ∀ o, (o < 68 ∨ 71 ≤ o) → w'.cell? ⟨p, o, none⟩ = w.cell? ⟨p, o, none⟩

theorem same_rest {w w' : World} {p : Nat} (h : w'.heap[p]? = w.heap[p]?) (o : Nat) : w'.cell? ⟨p, o, none⟩ = w.cell? ⟨p, o, none⟩ := World.cell?_of_block (a := ⟨p, o, none⟩) h

theorem drew_cell (w : World) (a : Addr) : w.drew.cell? a = w.cell? a := rfl
theorem rest3 (w : World) (g a b : Nat) (x y z : Value) (p o : Nat) (h : p ≠ g) (ho : o < 68 ∨ 71 ≤ o) : (((w.setCell ⟨g, a, none⟩ x).setCell ⟨g, b, none⟩ y).setCell ⟨p, 70, none⟩ z).drew.cell? ⟨p, o, none⟩ = w.cell? ⟨p, o, none⟩ := by
  rw [drew_cell, setP_rest _ p 70 (by omega) _ o ho, same_rest (blk_other _ g b y p h) o, same_rest (blk_other _ g a x p h) o]
/-- Behind lead. -/
structure MidP (w : World) (base : Bs) (p b : Nat) (lk : Value) (N free : Nat) (P1 X1 : Nat → Nat) (H1 : Int → Nat) (c : Nat) (w' : World) : Prop where
  ex : ∃ D', Cm w' base p b lk N free P1 X1 H1 D' c
  ke : Ke (FootC p b lk) w w'
  rest : ∀ o, (o < 68 ∨ 71 ≤ o) → w'.cell? ⟨p, o, none⟩ = w.cell? ⟨p, o, none⟩
section
variable (w : World) (base : Bs) (p b : Nat) (lk : Value) (N free : Nat) (P X : Nat → Nat) (H : Int → Nat) (D : DataW Unit) (c : Nat) (own : Nat → Option Int) (rk : Nat → Nat) (R : Nat) (FL : List Nat)

set_option maxHeartbeats 2000000 in
theorem remove_chain (h : Cm w base p b lk N free P X H D c) (k : ChI N P X free H own rk R FL) (m : Nat) (i : Int) (hi : (Lit.int .i64 i).wf = true) (ho : own m = some i) :
    Calls Tryd.prog 78 #[.pointer (some ⟨p, 68, none⟩), .int .i64 m, .int .i64 i] w fun e w' => e = .returned (.tuple #[]) ∧ RmP w base p b lk N c own rk R m w' := by
  have hm := k.out m i ho
  have hP := k.plt ho
  have hX := k.xlt ho
  have hF := k.flt
  have hnc := h.nc
  have hc6 := h.c6
  have kr := Lib.hid (k.remove ho)
  have hpm : P m ≠ m := fun e => by
    have := (k.p1 m i ho (by omega)).2.2
    rw [e] at this; omega
  have hxm : X m ≠ m := fun e => by
    have := (k.x1 m i ho (by omega)).2
    rw [e] at this; exact hpm this
  have hXH : P m = 0 → H i = m := fun e => k.p0 m i ho e
  obtain ⟨g, cap, rfl, bg, lg, nc, cm⟩ := h.row.form (by omega)
  obtain ⟨t0, t1⟩ := link_cells h.row m hm.2
  obtain ⟨u0, u1⟩ := link_cells h.row (P m) hP
  obtain ⟨v0, v1⟩ := link_cells h.row (X m) hX
  have z := h.row.frozen
  have z1 := z (P m * 2 + 1)
  have z2 := z (X m * 2)
  have z3 := z (m * 2)
  have z4 := z (m * 2 + 1)
  have c0 := h.c0
  have c1 := h.c1
  have c2 := h.c2
  have y2 := h.fz 70
  have pl := h.pl
  have hgp : ¬ g = p := fun e => h.lp (by simp [Value.ownBlock, e])
  obtain ⟨pm, ep⟩ : ∃ pm, P m = pm := ⟨_, rfl⟩
  obtain ⟨xm, ex⟩ : ∃ xm, X m = xm := ⟨_, rfl⟩
  rw [ep] at hP hpm t0 u0 u1 z1
  rw [ex] at hX hxm t1 v0 v1 z2
  have EP := Lib.hid ep
  have EX := Lib.hid ex
  have HH := Lib.hid h
  have hpz : (pm : Int) < (N : Int) := by omega
  have hxz : (xm : Int) < (N : Int) := by omega
  have hmz : (m : Int) < (N : Int) := by omega
  have wp : IntKind.i64.wrap (pm : Int) = (pm : Int) := by rw [IntKind.wrap_i64]; omega
  have HX := Lib.hid hXH
  -- the world behind the two stores
  obtain ⟨W1, hW1⟩ : ∃ W1, W1 = (((w.setCell ⟨g, pm * 2 + 1, none⟩ (.int .i64 (xm : Int))).setCell ⟨g, xm * 2, none⟩ (.int .i64 (pm : Int))).alloc (.cells #[.int .i64 (pm : Int), .int .i64 (xm : Int)] 124)).drew.drew := ⟨_, rfl⟩
  have A1 : Cm W1 base p b (.slice (some ⟨g, 0, none⟩) N cap) N free (upd P xm pm) (upd X pm xm) H D c := by
    rw [hW1]
    exact ((((h.setX pm xm rfl).setP xm pm rfl).gr ((Ke.refl _ _).alloc _)).gr (Ke.refl _ _).drew).gr (Ke.refl _ _).drew
  have K1 : Ke (FootC p b (.slice (some ⟨g, 0, none⟩) N cap)) w W1 := by
    rw [hW1]
    exact (((((Ke.refl _ w).set (.inl (.inr (.inr rfl))) _).set (.inl (.inr (.inr rfl))) _).alloc _).drew).drew
  have r1 : ∀ o, (o < 68 ∨ 71 ≤ o) → W1.cell? ⟨p, o, none⟩ = w.cell? ⟨p, o, none⟩ := fun o ho => by
    have e1 : W1.heap[p]? = w.heap[p]? := by
      rw [hW1]
      exact (Below.heap_alloc _ _ p (by simpa [World.setCell] using pl)).trans ((blk_other _ _ _ _ _ (fun e => hgp e.symm)).trans (blk_other _ _ _ _ _ (fun e => hgp e.symm)))
    exact same_rest e1 o
  have b1 : W1.cell? ⟨w.heap.size, 1, none⟩ = some (.int .i64 (xm : Int)) := by rw [hW1]; simp [go_sem]
  have AA := Lib.hid A1
  have KK := Lib.hid K1
  have RR := Lib.hid r1
  have HI := Lib.hid hi
  clear h k hXH z ep ex A1 K1 r1 hi
  go_enter Tryd.func78, Tryd.ntmps78
  go_wp2
  go_region
  go_wp2
  go_region
  go_upto_if 36 with fail
  go_cut [41] (fun s41 wx => MidP w base p b (.slice (some ⟨g, 0, none⟩) N cap) N free (upd P xm pm) (upd X pm xm) (if pm = 0 then updI H i xm else H) c wx)
  case first =>
    rw [← hW1]
    clear hW1
    by_cases e0 : pm = 0
    · have d0 : ((pm : Int) == 0) = true := by simp [e0]
      have LD : Hid (Calls Tryd.prog 94 #[.pointer (some ⟨p, 68, none⟩), .int .i64 i, .int .i64 (xm : Int)] W1 fun e w' => e = .returned (.tuple #[]) ∧ LdP W1 base p b (.slice (some ⟨g, 0, none⟩) N cap) N free (upd P xm pm) (upd X pm xm) (updI H i xm) c w') := by
        by_cases e1 : xm = 0
        · have := lead_zero W1 base p b _ N free _ _ H D c AA.out i HI.out
          rw [e1]
          rw [e1] at this
          exact this
        · exact lead_some W1 base p b _ N free _ _ H D c AA.out i HI.out xm e1 (by omega) (fun q => by
            have := HX.out (by rw [EP.out]; exact e0)
            omega)
      have E0 := Lib.hid e0
      clear e0
      go_wp2_with fail
      refine LD.out.mono ?_
      rintro e w2 ⟨rfl, L2⟩
      have LL := Lib.hid L2
      clear L2 LD
      go_wp2_with fail
      go_meet
      case rel =>
        obtain ⟨⟨D', c2⟩, t2⟩ := LL.out
        rw [if_pos E0.out]
        exact ⟨⟨D', c2⟩, KK.out.trans (turned_ke t2 (.inr (.inl rfl))), fun o ho => (same_rest (t2.grown.block p AA.out.pl (by simpa using AA.out.pb)) o).trans (RR.out o ho)⟩
    · have d0 : ((pm : Int) == 0) = false := by simp [e0]
      have E0 := Lib.hid e0
      clear e0
      go_wp2_with fail
      go_meet
      case rel =>
        rw [if_neg E0.out]
        exact ⟨⟨D, AA.out⟩, KK.out, RR.out⟩
  case rest =>
    have MM := Lib.hid hcut
    obtain ⟨⟨D', A2⟩, _, _⟩ := hcut
    have c1' := A2.c1
    have c2' := A2.c2
    have y2' := A2.fz 70
    obtain ⟨q0, q1⟩ := link_cells A2.row m hm.2
    have x3 := A2.row.frozen (m * 2)
    have x4 := A2.row.frozen (m * 2 + 1)
    have A3 := Lib.hid A2
    clear A2 c0 c1 c2 y2 t0 t1 u0 u1 v0 v1 z1 z2 z3 z4 AA KK RR HI hW1 b1 HH
    go_wp2
    go_region
    go_wp2
    go_end0
    have k2 := kr.out
    unfold headR at k2
    rw [EP.out, EX.out] at k2
    have q5 := (((A3.out.setP m 0 (y := 0) rfl).setX m free (y := (free : Int)) rfl).setF m (y := (m : Int)) rfl).gr (Ke.refl _ _).drew
    refine ⟨rfl, ⟨m, _, _, _, D', _, q5, k2⟩, ?_, fun o ho => ?_⟩
    · have F1 : FootC p b (.slice (some ⟨g, 0, none⟩) N cap) g := .inr (.inr rfl)
      have F2 : FootC p b (.slice (some ⟨g, 0, none⟩) N cap) p := .inl rfl
      exact (((MM.out.ke.set (p := ⟨g, m * 2, none⟩) (.inl F1) _).set (p := ⟨g, m * 2 + 1, none⟩) (.inl F1) _).set (p := ⟨p, 70, none⟩) (.inl F2) _).drew
    · exact (rest3 wc g (m * 2) (m * 2 + 1) _ _ _ p o (fun e => hgp e.symm) ho).trans (MM.out.rest o ho)
end
end Go.Proofs.YtlpjojegdnconaaDoor.Ca
