/- Jobs: the store of a whole task; contract of remove. -/
import Derived.Test.YtlpjojegdnconaaDoorQ1
namespace Go.Proofs.YtlpjojegdnconaaDoor
open Go.RowKit Go.Lib Go.Maps
open Ca (Ke Gr Sv Row Cl Ky Bs blk_other)
set_option linter.unusedVariables false
set_option maxRecDepth 100000
set_option maxHeartbeats 2000000

section
variable {w : World} {base p n c g bm : Nat} {v : Value} {m : Nat} {A : Nat → Option Int} {T : Nat → Tk} {D : DataW Unit} {Fc : Nat → Prop} {L : List Ky} {q cap : Nat}
/-- The eleven cells of a task, one behind another. -/
theorem tc_set11 (T : Nat → Tk) (i : Nat) (x : Tk) : tc (upd T i x) = Ca.upd (Ca.upd (Ca.upd (Ca.upd (Ca.upd (Ca.upd (Ca.upd (Ca.upd (Ca.upd (Ca.upd (Ca.upd (tc T) (i * 11) (fld x 0)) (i * 11 + 1) (fld x 1)) (i * 11 + 2) (fld x 2)) (i * 11 + 3) (fld x 3)) (i * 11 + 4) (fld x 4)) (i * 11 + 5) (fld x 5)) (i * 11 + 6) (fld x 6)) (i * 11 + 7) (fld x 7)) (i * 11 + 8) (fld x 8)) (i * 11 + 9) (fld x 9)) (i * 11 + 10) (fld x 10) := by
  funext j
  unfold tc
  by_cases q : j / 11 = i
  · rw [q, upd_same]
    have : j = i * 11 + j % 11 := by omega
    have h5 : j % 11 < 11 := Nat.mod_lt _ (by omega)
    generalize j % 11 = o at this h5
    subst this
    unfold Ca.upd
    rcases (show o = 0 ∨ o = 1 ∨ o = 2 ∨ o = 3 ∨ o = 4 ∨ o = 5 ∨ o = 6 ∨ o = 7 ∨ o = 8 ∨ o = 9 ∨ o = 10 by omega) with rfl | rfl | rfl | rfl | rfl | rfl | rfl | rfl | rfl | rfl | rfl <;> simp
  · rw [upd_other _ _ q]
    unfold Ca.upd
    rw [if_neg (by omega), if_neg (by omega), if_neg (by omega), if_neg (by omega), if_neg (by omega), if_neg (by omega), if_neg (by omega), if_neg (by omega), if_neg (by omega), if_neg (by omega), if_neg (by omega)]
/-- The store of a task. -/
abbrev put11 (w : World) (q a : Nat) (x : Tk) : World := ((((((((((w.setCell ⟨q, a, none⟩ (.int .i64 x.id)).setCell ⟨q, a + 1, none⟩ (.int .i64 x.e)).setCell ⟨q, a + 2, none⟩ (.int .i64 x.p)).setCell ⟨q, a + 3, none⟩ (.bool x.sp)).setCell ⟨q, a + 4, none⟩ (.bool x.le)).setCell ⟨q, a + 5, none⟩ (.bool x.wa)).setCell ⟨q, a + 6, none⟩ (.bool x.ac)).setCell ⟨q, a + 7, none⟩ (.int .i64 x.r)).setCell ⟨q, a + 8, none⟩ (.int .i64 x.g)).setCell ⟨q, a + 9, none⟩ (.bool x.dn)).setCell ⟨q, a + 10, none⟩ (.int .i64 x.ct)
theorem Jx.put (h : Jx w base p n c g bm (.slice (some ⟨q, 0, none⟩) m cap) m A T D Fc L) (i : Nat) (x : Tk) : Jx (put11 w q (i * 11) x) base p n c g bm (.slice (some ⟨q, 0, none⟩) m cap) m A (upd T i x) D Fc L ∧ Ke (FJ g bm (.slice (some ⟨q, 0, none⟩) m cap) Fc) w (put11 w q (i * 11) x) := by
  have s1 : ∀ {W : World} (a : Nat) (u : Value), Ke (fun j => (Value.slice (some ⟨q, 0, none⟩) m cap).ownBlock = some j) w W → Ke (fun j => (Value.slice (some ⟨q, 0, none⟩) m cap).ownBlock = some j) w (W.setCell ⟨q, a, none⟩ u) := fun {W} a u k => Ke.set k (p := ⟨q, a, none⟩) (.inl rfl) u
  have K := s1 (i * 11 + 10) (.int .i64 x.ct) (s1 (i * 11 + 9) (.bool x.dn) (s1 (i * 11 + 8) (.int .i64 x.g) (s1 (i * 11 + 7) (.int .i64 x.r) (s1 (i * 11 + 6) (.bool x.ac) (s1 (i * 11 + 5) (.bool x.wa) (s1 (i * 11 + 4) (.bool x.le) (s1 (i * 11 + 3) (.bool x.sp) (s1 (i * 11 + 2) (.int .i64 x.p) (s1 (i * 11 + 1) (.int .i64 x.e) (s1 (i * 11) (.int .i64 x.id) (Ke.refl _ w)))))))))))
  have r := ((((((((((h.row.set (i * 11) (.int .i64 x.id)).set (i * 11 + 1) (.int .i64 x.e)).set (i * 11 + 2) (.int .i64 x.p)).set (i * 11 + 3) (.bool x.sp)).set (i * 11 + 4) (.bool x.le)).set (i * 11 + 5) (.bool x.wa)).set (i * 11 + 6) (.bool x.ac)).set (i * 11 + 7) (.int .i64 x.r)).set (i * 11 + 8) (.int .i64 x.g)).set (i * 11 + 9) (.bool x.dn)).set (i * 11 + 10) (.int .i64 x.ct)
  have e := tc_set11 T i x
  simp only [fld] at e
  rw [← e] at r
  exact ⟨h.turn K r, Jx.turn_ke K⟩

/-- remove. -/
def RmJ (w : World) (base p n c g bm : Nat) (v : Value) (m : Nat) (A' : Nat → Option Int) (T' : Nat → Tk) (Fc : Nat → Prop) (L : List Ky) (w' : World) : Prop := ∃ D', Jx w' base p n c g bm v m A' T' D' Fc L ∧ Ke (FJ g bm v Fc) w w'
theorem drop_jx (h : Jx w base p n c g bm v m A T D Fc L) {s : Nat} {i : Int} (hi : (Lit.int .i64 i).wf = true) (hs : A s = some i) :
    Calls Tryd.prog 50 #[.pointer (some ⟨p, 0, none⟩), .int .i64 i] w fun e w' => e = .returned (.bool true) ∧ RmJ w base p n c g bm v m (upd A s none) T Fc L w' := by
  refine (drop_some p g bm n A D w h.rep i hi s hs).mono ?_
  rintro e w' ⟨rfl, k, r⟩
  have h1 := h.table k r (fun t ht => by
    by_cases q : t = s
    · subst q; rw [upd_same] at ht; exact absurd rfl ht
    · rw [upd_other _ _ q] at ht; exact h.tk t ht)
  have h2 := h.table_ke k
  exact ⟨rfl, _, h1, h2⟩
theorem remove_any' (h : Jx w base p n c g bm (.slice (some ⟨q, 0, none⟩) m cap) m A T D Fc L) {s : Nat} {i : Int} (hi : (Lit.int .i64 i).wf = true) (hs : A s = some i) :
    Calls Tryd.prog 33 #[.pointer (some ⟨p, 0, none⟩), .int .i64 i] w fun e w' => e = .returned (.tuple #[]) ∧ RmJ w base p n c g bm (.slice (some ⟨q, 0, none⟩) m cap) m (upd A s none) (upd T s zeroT) Fc L w' := by
  have C := Lib.hid (get_some p g bm n A D w h.rep i hi s hs)
  have DR := Lib.hid (drop_jx h hi hs)
  have hsm := (h.form hs).1
  have hn := h.rep.n4
  have hmn := h.mn
  clear h hs
  go_enter Tryd.func33, Tryd.ntmps33
  go_wp2_with fail
  refine C.out.mono ?_
  rintro e w1 ⟨rfl, hw⟩
  obtain rfl := hw.symm
  clear hw C
  go_wp2_with fail
  refine DR.out.mono ?_
  rintro e w2 ⟨rfl, D', h2, k2⟩
  have K2 := Lib.hid k2
  have pt := h2.put s zeroT
  obtain ⟨zt, hzt⟩ : ∃ z, z = zeroT := ⟨_, rfl⟩
  rw [← hzt] at pt
  simp only [put11, show zt.id = 0 by rw [hzt]; rfl, show zt.e = 0 by rw [hzt]; rfl, show zt.p = 0 by rw [hzt]; rfl, show zt.sp = false by rw [hzt]; rfl, show zt.le = false by rw [hzt]; rfl, show zt.wa = false by rw [hzt]; rfl, show zt.ac = false by rw [hzt]; rfl, show zt.r = 0 by rw [hzt]; rfl, show zt.g = 0 by rw [hzt]; rfl, show zt.dn = false by rw [hzt]; rfl, show zt.ct = 0 by rw [hzt]; rfl] at pt
  have HZ := Lib.hid hzt
  clear hzt
  have PT := Lib.hid pt
  clear pt
  have c67 := h2.c67
  have hz : (s : Int) < (m : Int) := by omega
  have k0 := h2.cell hsm (o := 0) (by omega)
  have k1 := h2.cell hsm (o := 1) (by omega)
  have k2' := h2.cell hsm (o := 2) (by omega)
  have k3 := h2.cell hsm (o := 3) (by omega)
  have k4 := h2.cell hsm (o := 4) (by omega)
  have k5 := h2.cell hsm (o := 5) (by omega)
  have k6 := h2.cell hsm (o := 6) (by omega)
  have k7 := h2.cell hsm (o := 7) (by omega)
  have k8 := h2.cell hsm (o := 8) (by omega)
  have k9 := h2.cell hsm (o := 9) (by omega)
  have k10 := h2.cell hsm (o := 10) (by omega)
  have z := h2.frozen
  have z0 := z (s * 11)
  have z1 := z (s * 11 + 1)
  have z2 := z (s * 11 + 2)
  have z3 := z (s * 11 + 3)
  have z4 := z (s * 11 + 4)
  have z5 := z (s * 11 + 5)
  have z6 := z (s * 11 + 6)
  have z7 := z (s * 11 + 7)
  have z8 := z (s * 11 + 8)
  have z9 := z (s * 11 + 9)
  have z10 := z (s * 11 + 10)
  simp only [fld, Nat.add_zero] at k0 k1 k2' k3 k4 k5 k6 k7 k8 k9 k10
  clear z DR h2 k2 hn hmn hi
  generalize T s = x at k0 k1 k2' k3 k4 k5 k6 k7 k8 k9 k10
  go_wp2_with fail
  go_end0
  have hj := PT.out.1
  rw [HZ.out] at hj
  have hk := K2.out.trans PT.out.2
  exact ⟨rfl, D', hj, hk⟩
end
end Go.Proofs.YtlpjojegdnconaaDoor
