/- The heap: contract of remove. -/
import Derived.Test.YtlpjojegdnconaaDoorL6
namespace Go.Proofs.YtlpjojegdnconaaDoor.Ca
open Go.RowKit Go.Lib
set_option linter.unusedVariables false
set_option maxRecDepth 100000

theorem Row.pop {w : World} {base : Nat} {e : TypeId} {size g cap n : Nat} {f : Nat → Value} (h : Row w base e size (.slice (some ⟨g, 0, none⟩) (n + 1) cap) (n + 1) f) : Row w base e size (.slice (some ⟨g, 0, none⟩) n cap) n f := by
  rcases h.2 with ⟨h0, _⟩ | ⟨g', cap', cur, hv, hg, hh, hn, hcap, hsz, htake⟩
  · cases h0
  · cases hv
    refine ⟨by simp, .inr ⟨g, cap, cur, rfl, hg, hh, by omega, hcap, hsz, ?_⟩⟩
    have h3 : (cur.toList.take ((n + 1) * size)).take (n * size) = ((List.range ((n + 1) * size)).map f).take (n * size) := by rw [htake]
    rw [List.take_take, Nat.min_eq_left (Nat.mul_le_mul_right _ (by omega))] at h3
    rw [h3, ← List.map_take, List.take_range, Nat.min_eq_left (Nat.mul_le_mul_right _ (by omega))]

/-- The tree, cut by one. -/
theorem Mem.cut {w : World} {base p : Nat} {k : Int} {u : Value} {n g cap : Nat} {T : Nat → En} {L : Nat} {S : Nat → Nat} (h : Mem w base p k (.slice (some ⟨g, 0, none⟩) (n + 1) cap) u (n + 1) T L S) :
    Mem (w.setCell ⟨p, 1, none⟩ (.slice (some ⟨g, 0, none⟩) n cap)) base p k (.slice (some ⟨g, 0, none⟩) n cap) u n T L S :=
  { bp := h.bp, n6 := by have := h.n6; omega, l6 := h.l6
    c0 := (World.cell?_setCell_other w _ _ _ (fun q => by cases q)).trans h.c0
    c1 := World.cell?_setCell_same w _ _ h.c1
    c2 := (World.cell?_setCell_other w _ _ _ (fun q => by cases q)).trans h.c2
    fz := fun o => by simpa using h.fz o
    tr := h.tr.pop.keep (fun x hx => blk_other _ _ _ _ _ (fun e => h.pv (by rw [← e]; exact hx)))
    sp := h.sp.keep (fun x hx => blk_other _ _ _ _ _ (fun e => h.pu (by rw [hx, e])))
    pv := h.pv, pu := h.pu, vu := h.vu }

/-- What remove leaves. -/
def RemP (w : World) (base p : Nat) (k : Int) (g cap : Nat) (u : Value) (n : Nat) (T : Nat → En) (L i : Nat) (w' : World) : Prop :=
  ∃ T2 S2, Mem w' base p k (.slice (some ⟨g, 0, none⟩) n cap) u n T2 L S2 ∧ Hp k T2 n ∧ Idx T2 n S2 L n ∧ Same n (upd T i (T n)) T2 ∧ Ke (Foot p (.slice (some ⟨g, 0, none⟩) (n + 1) cap) u) w w'

set_option maxHeartbeats 2000000 in
theorem remove_any (w : World) (base p : Nat) (k : Int) (g cap : Nat) (u : Value) (n : Nat) (T : Nat → En) (L : Nat) (S : Nat → Nat) (h : Mem w base p k (.slice (some ⟨g, 0, none⟩) (n + 1) cap) u (n + 1) T L S) (x : Idx T (n + 1) S L (n + 1)) (o : Hp k T (n + 1)) (i : Nat) (hi : i < n + 1) :
    Calls Tryd.prog 93 #[.pointer (some ⟨p, 0, none⟩), .int .i64 i] w fun e w' => e = .returned (.tuple #[]) ∧ RemP w base p k g cap u n T L i w' := by
  have hl := x.lt i hi
  obtain ⟨q, cap2, rfl, bq, lq, nc2, cm2⟩ := h.sp.form (by omega)
  have c1 := h.c1
  have c2 := h.c2
  have f1 := h.fz 1
  have pl := h.pl
  have hn6 := h.n6
  have hl6 := h.l6
  obtain ⟨g2, cap', hv, bg, lg, nc, cm⟩ := h.tr.form (by omega)
  cases hv
  obtain ⟨t0, t1, t2, t3, t4⟩ := tree_cells h.tr n (by omega)
  obtain ⟨s0, _⟩ := tree_cells h.tr i hi
  have z0 := h.sp.cell (T i).s (by omega)
  unfold sc at z0
  have zf := h.sp.frozen (T i).s
  have hgp : ¬ g = p := fun e => h.pv (by simp [Value.ownBlock, e])
  have hqp : ¬ q = p := fun e => h.pu (by simp [Value.ownBlock, e])
  have hgq : ¬ g = q := fun e => h.vu g rfl (by simp [Value.ownBlock, e])
  have K0 : Hid (∀ W, Ke (Foot p (.slice (some ⟨g, 0, none⟩) (n + 1) cap) (.slice (some ⟨q, 0, none⟩) L cap2)) w W → Ke (Foot p (.slice (some ⟨g, 0, none⟩) n cap) (.slice (some ⟨q, 0, none⟩) L cap2)) w W) := fun W kk => kk
  -- behind the cut and the struck spot
  have M1 : Hid (∀ W, Gr ((w.setCell ⟨p, 1, none⟩ (.slice (some ⟨g, 0, none⟩) n cap)).setCell ⟨q, (T i).s, none⟩ (.int .i32 0)) W → Mem W base p k (.slice (some ⟨g, 0, none⟩) n cap) (.slice (some ⟨q, 0, none⟩) L cap2) n T L (upd S (T i).s 0)) := fun W gW => (h.cut.setS (T i).s 0 (y := 0) rfl).gr gW
  have F1 : Foot p (.slice (some ⟨g, 0, none⟩) n cap) (.slice (some ⟨q, 0, none⟩) L cap2) p := .inl rfl
  have F2 : Foot p (.slice (some ⟨g, 0, none⟩) n cap) (.slice (some ⟨q, 0, none⟩) L cap2) q := .inr (.inr rfl)
  have KE1 : Hid (∀ W, Gr ((w.setCell ⟨p, 1, none⟩ (.slice (some ⟨g, 0, none⟩) n cap)).setCell ⟨q, (T i).s, none⟩ (.int .i32 0)) W → Ke (Foot p (.slice (some ⟨g, 0, none⟩) n cap) (.slice (some ⟨q, 0, none⟩) L cap2)) w W) := fun W gW => (((Ke.refl _ w).set (.inl F1) _).set (.inl F2) _).trans (Ke.of_gr gW)
  have X1 : Hid (Idx (upd T i (T n)) n (upd S (T i).s 0) L i) := x.drop hi
  have hTn := x.lt n (by omega)
  have C20 : Hid (i < n → ∀ W, Gr ((w.setCell ⟨p, 1, none⟩ (.slice (some ⟨g, 0, none⟩) n cap)).setCell ⟨q, (T i).s, none⟩ (.int .i32 0)) W → Calls Tryd.prog 83 #[.pointer (some ⟨p, 0, none⟩), .int .i64 i, VE (T n)] W fun x w' => x = .returned (.tuple #[]) ∧
      Calls Tryd.prog 84 #[.pointer (some ⟨p, 0, none⟩), .int .i64 i] w' fun x w'' => x = .returned (.tuple #[]) ∧ RemP w base p k g cap (.slice (some ⟨q, 0, none⟩) L cap2) n T L i w'') := fun hin W gW => by
    refine (set_any W base p k _ _ n T L _ (M1.out W gW) i hin (T n) hTn).mono ?_
    rintro e W2 ⟨rfl, m, kk⟩
    refine ⟨rfl, ?_⟩
    have xf := X1.out.fill hin
    rw [upd_same] at xf
    refine (settle_any W2 base p k _ _ n _ L _ m xf i (up_start (hp_less o (by omega)) hin (T n))).mono ?_
    rintro e W3 ⟨rfl, T2, S2, m2, hp2, x2, sm2, k2⟩
    exact ⟨rfl, T2, S2, m2, hp2, x2, sm2, ((KE1.out W gW).trans kk).trans k2⟩
  have FIN : Hid (i = n → ∀ W, Gr ((w.setCell ⟨p, 1, none⟩ (.slice (some ⟨g, 0, none⟩) n cap)).setCell ⟨q, (T i).s, none⟩ (.int .i32 0)) W → RemP w base p k g cap (.slice (some ⟨q, 0, none⟩) L cap2) n T L i W) := fun e W gW => by
    have x1 := X1.out
    rw [e, upd_self] at x1
    refine ⟨T, upd S (T i).s 0, M1.out W gW, hp_less o (by omega), by rw [e]; exact x1, by rw [e, upd_self]; exact Same.refl _ _, KE1.out W gW⟩
  clear h x o X1 M1 KE1 F1 F2 K0
  generalize T n = y at C20 t0 t1 t2 t3 t4
  obtain ⟨ys, yd, yb, yg, yi⟩ := y
  generalize (T i).s = gone at *
  simp only at t0 t1 t2 t3 t4 C20
  have hiz : (i : Int) < (n : Int) + 1 := by omega
  have hlz : (gone : Int) < (L : Int) := by omega
  by_cases hin : i < n
  · have hinz : (i : Int) < (n : Int) := by omega
    go_enter Tryd.func93, Tryd.ntmps93
    go_wp2
    go_region
    go_wp2_with fail
    refine (C20.out hin _ ((Ke.refl _ _).alloc _).drew).mono ?_
    rintro e w5 ⟨rfl, C⟩
    have CC := Lib.hid C
    clear C C20 FIN
    go_wp2_with fail
    refine CC.out.mono ?_
    rintro e w6 ⟨rfl, P⟩
    have PP := Lib.hid P
    clear P CC
    go_wp2
    go_end0
    exact ⟨rfl, PP.out⟩
  · have hinz : ¬ (i : Int) < (n : Int) := by omega
    have FN : Hid (∀ W, Gr ((w.setCell ⟨p, 1, none⟩ (.slice (some ⟨g, 0, none⟩) n cap)).setCell ⟨q, gone, none⟩ (.int .i32 0)) W → RemP w base p k g cap (.slice (some ⟨q, 0, none⟩) L cap2) n T L i W) := FIN.out (by omega)
    clear FIN C20
    go_enter Tryd.func93, Tryd.ntmps93
    go_wp2
    go_region
    go_wp2
    go_end0
    exact ⟨rfl, FN.out _ ((Ke.refl _ _).alloc _).drew⟩
end Go.Proofs.YtlpjojegdnconaaDoor.Ca
