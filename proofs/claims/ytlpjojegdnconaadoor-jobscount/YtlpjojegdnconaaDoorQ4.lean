/- Jobs: contracts of find, here, await, remove. Jobs: the store of a whole task; contract of remove. Jobs: what a call needs and leaves, by the list of tasks; contract of New. Jobs: contracts of Leave, Arrive, Finish, Give by the list of tasks. -/
import Derived.Test.YtlpjojegdnconaaDoorJ5
import Derived.Deep.RegionHeld3
import Derived.Deep.MidRow
import Derived.Laws.Tables
namespace Go.Proofs.YtlpjojegdnconaaDoor
open Go.RowKit Go.Lib Go.Maps
open Ca (Ke Gr Sv Row Cl Ky Bs blk_other)
set_option linter.unusedVariables false
set_option maxRecDepth 100000
set_option maxHeartbeats 2000000

section
variable {w : World} {base p n c g bm : Nat} {v : Value} {m : Nat} {A : Nat → Option Int} {T : Nat → Tk} {D : DataW Unit} {Fc : Nat → Prop} {L : List Ky} {q cap : Nat}
theorem Jx.form (h : Jx w base p n c g bm v m A T D Fc L) {s : Nat} {i : Int} (hs : A s = some i) : s < m ∧ ∃ q cap, v = .slice (some ⟨q, 0, none⟩) m cap := by
  have h1 := h.tk s (by rw [hs]; simp)
  obtain ⟨q, cap, h2, _⟩ := h.row.form (by omega)
  exact ⟨h1, q, cap, h2⟩
theorem find_some (h : Jx w base p n c g bm (.slice (some ⟨q, 0, none⟩) m cap) m A T D Fc L) {s : Nat} {i : Int} (hi : (Lit.int .i64 i).wf = true) (hs : A s = some i) :
    Calls Tryd.prog 42 #[.pointer (some ⟨p, 0, none⟩), .int .i64 i] w fun e w' => e = .returned (.pointer (some ⟨q, s * 11, none⟩)) ∧ w' = w := by
  have C := Lib.hid (get_some p g bm n A D w h.rep i hi s hs)
  have c67 := h.c67
  have hsm := (h.form hs).1
  have hz : (s : Int) < (m : Int) := by omega
  have hn := h.rep.n4
  have hmn := h.mn
  clear h hs
  go_enter Tryd.func42, Tryd.ntmps42
  go_wp2_with fail
  refine C.out.mono ?_
  rintro e w1 ⟨rfl, hw⟩
  obtain rfl := hw.symm
  clear hw C
  go_wp2_with fail
  go_ret
  exact ⟨rfl, rfl⟩
theorem find_none (h : Jx w base p n c g bm v m A T D Fc L) {i : Int} (hi : (Lit.int .i64 i).wf = true) (hs : ∀ s, A s ≠ some i) :
    Calls Tryd.prog 42 #[.pointer (some ⟨p, 0, none⟩), .int .i64 i] w fun e w' => e = .returned (.pointer none) ∧ w' = w := by
  have C := Lib.hid (get_none p g bm n A D w h.rep i hi hs)
  clear h hs
  go_enter Tryd.func42, Tryd.ntmps42
  go_wp2_with fail
  refine C.out.mono ?_
  rintro e w1 ⟨rfl, hw⟩
  obtain rfl := hw.symm
  clear hw C
  go_wp2_with fail
  go_ret
  exact ⟨rfl, rfl⟩
theorem here_some (h : Jx w base p n c g bm (.slice (some ⟨q, 0, none⟩) m cap) m A T D Fc L) {s : Nat} {i : Int} (hi : (Lit.int .i64 i).wf = true) (hs : A s = some i) :
    Calls Tryd.prog 32 #[.pointer (some ⟨p, 0, none⟩), .int .i64 i] w fun e w' => e = .returned (.tuple #[.pointer (some ⟨q, s * 11, none⟩), .int .i64 0]) ∧ w' = w := by
  have C := Lib.hid (find_some h hi hs)
  clear h hs
  go_enter Tryd.func32, Tryd.ntmps32
  go_wp2_with fail
  refine C.out.mono ?_
  rintro e w1 ⟨rfl, hw⟩
  obtain rfl := hw.symm
  clear hw C
  go_wp2_with fail
  go_ret2
  exact ⟨rfl, rfl⟩
theorem here_none (h : Jx w base p n c g bm v m A T D Fc L) {i : Int} (hi : (Lit.int .i64 i).wf = true) (hs : ∀ s, A s ≠ some i) :
    Calls Tryd.prog 32 #[.pointer (some ⟨p, 0, none⟩), .int .i64 i] w fun e w' => e = .returned (.tuple #[.pointer none, .int .i64 5]) ∧ w' = w := by
  have C := Lib.hid (find_none h hi hs)
  clear h hs
  go_enter Tryd.func32, Tryd.ntmps32
  go_wp2_with fail
  refine C.out.mono ?_
  rintro e w1 ⟨rfl, hw⟩
  obtain rfl := hw.symm
  clear hw C
  go_wp2_with fail
  go_ret2
  exact ⟨rfl, rfl⟩

/-- await: the end of the job is marked. -/
def AwQ (w : World) (base p n c g bm : Nat) (v : Value) (m : Nat) (A : Nat → Option Int) (T : Nat → Tk) (D : DataW Unit) (Fc : Nat → Prop) (L' : List Ky) (w' : World) : Prop := ∃ Fc', Jx w' base p n (c + 1) g bm v m A T D Fc' L' ∧ Sv Fc Fc' w w'
theorem await_any (h : Jx w base p n c g bm (.slice (some ⟨q, 0, none⟩) m cap) m A T D Fc L) {s : Nat} {i : Int} (hs : A s = some i) (hid : (T s).id = i) (ok : OkT (c + 1) (T s)) (hc : c + 1 ≤ 65535) :
    Calls Tryd.prog 39 #[.pointer (some ⟨p, 0, none⟩), .pointer (some ⟨q, s * 11, none⟩)] w fun e w' => e = .returned (.tuple #[]) ∧ AwQ w base p n c g bm (.slice (some ⟨q, 0, none⟩) m cap) m A T D Fc (Ca.ins ((T s).r + (T s).p, i) L) w' := by
  have hsm := (h.form hs).1
  have k7 := h.cell hsm (o := 7) (by omega)
  have k2 := h.cell hsm (o := 2) (by omega)
  have k0 := h.cell hsm (o := 0) (by omega)
  simp only [fld, Nat.add_zero] at k7 k2 k0
  rw [hid] at k0
  have hiw : (Lit.int .i64 i).wf = true := by rw [← hid]; exact ok.wf
  have e1 := ok.e1
  have ep := ok.ep
  have DL := Lib.hid (deadline_any q (s * 11) (T s).r (T s).p w k7 k2 ok.r0 ok.rm (by omega) ok.pm)
  have HC := Lib.hid (fun W (K : Gr w W) => (Ca.cl_put (h.gr K).cl hc ((T s).r + (T s).p) i hiw))
  have HH := Lib.hid h
  clear hs ok k7 k2 hiw e1 ep
  have HI := Lib.hid hid
  have NQ : Hid (¬ Fc q) := HH.out.fv q rfl
  clear h hid hsm
  obtain ⟨r, hr⟩ : ∃ r, (T s).r = r := ⟨_, rfl⟩
  obtain ⟨pp, hp⟩ : ∃ pp, (T s).p = pp := ⟨_, rfl⟩
  rw [hr, hp] at DL HC ⊢
  clear hr hp
  go_enter Tryd.func39, Tryd.ntmps39
  go_wp2_with fail
  refine DL.out.mono ?_
  rintro e w1 ⟨rfl, g1⟩
  have kc : w1.drew.cell? ⟨q, s * 11, none⟩ = some (.int .i64 i) := Ca.gcell g1.drew k0
  have G1 := Lib.hid g1.drew
  have FQ := Lib.hid (HC.out _ g1.drew)
  clear g1 DL k0 HC
  go_upto_region 2 with fail
  go_region_held3 (fun w' => w'.cell? ⟨q, s * 11, none⟩ = some (.int .i64 i))
    (with_reducible first | exact kc | exact kd)
    (first | (go_at_call 53; refine FQ.out.mono ?_; rintro e w2 ⟨rfl, Fc', P2, v2⟩; have kd := (v2.ke.cell (p := ⟨q, s * 11, none⟩) (Ca.lt_of_cell kc) NQ.out).trans kc; have PP := Lib.hid P2; have VV := Lib.hid v2; clear P2 v2))
  go_wp2_with fail
  go_end0
  have hx := HH.out.gr G1.out
  have hy := hx.cal PP.out VV.out
  have hz := (Ca.Sv.of_gr G1.out).trans VV.out
  exact ⟨rfl, Fc', hy, hz⟩

end
end Go.Proofs.YtlpjojegdnconaaDoor

namespace Go.Proofs.YtlpjojegdnconaaDoor
open Go.RowKit Go.Lib Go.Maps
open Ca (Ke Gr Sv Row Cl Ky Bs blk_other)
set_option linter.unusedVariables false
set_option maxRecDepth 100000
set_option maxHeartbeats 2000000

section
variable {w : World} {base p n c g bm : Nat} {v : Value} {m : Nat} {A : Nat → Option Int} {T : Nat → Tk} {D : DataW Unit} {Fc : Nat → Prop} {L : List Ky} {q cap : Nat}
/-- The eleven cells of a task, one behind another. -/
theorem tc_set11 (T : Nat → Tk) (i : Nat) (x : Tk) : tc (upd T i x) = Ca.upd (Ca.upd (Ca.upd (Ca.upd (Ca.upd (Ca.upd (Ca.upd (Ca.upd (Ca.upd (Ca.upd (Ca.upd (tc T) (i * 11) (fld x 0)) (i * 11 + 1) (fld x 1)) (i * 11 + 2) (fld x 2)) (i * 11 + 3) (fld x 3)) (i * 11 + 4) (fld x 4)) (i * 11 + 5) (fld x 5)) (i * 11 + 6) (fld x 6)) (i * 11 + 7) (fld x 7)) (i * 11 + 8) (fld x 8)) (i * 11 + 9) (fld x 9)) (i * 11 + 10) (fld x 10) := by
  funext j
  unfold tc
  by_cases q : j / 11 = i
  · rw [q, upd_same]
    have : j = i * 11 + j % 11 := by omega
    have h5 : j % 11 < 11 := Nat.mod_lt _ (by omega)
    generalize j % 11 = o at this h5
    subst this
    unfold Ca.upd
    rcases (show o = 0 ∨ o = 1 ∨ o = 2 ∨ o = 3 ∨ o = 4 ∨ o = 5 ∨ o = 6 ∨ o = 7 ∨ o = 8 ∨ o = 9 ∨ o = 10 by omega) with rfl | rfl | rfl | rfl | rfl | rfl | rfl | rfl | rfl | rfl | rfl <;> simp
  · rw [upd_other _ _ q]
    unfold Ca.upd
    rw [if_neg (by omega), if_neg (by omega), if_neg (by omega), if_neg (by omega), if_neg (by omega), if_neg (by omega), if_neg (by omega), if_neg (by omega), if_neg (by omega), if_neg (by omega), if_neg (by omega)]
/-- The store of a task. -/
abbrev put11 (w : World) (q a : Nat) (x : Tk) : World := ((((((((((w.setCell ⟨q, a, none⟩ (.int .i64 x.id)).setCell ⟨q, a + 1, none⟩ (.int .i64 x.e)).setCell ⟨q, a + 2, none⟩ (.int .i64 x.p)).setCell ⟨q, a + 3, none⟩ (.bool x.sp)).setCell ⟨q, a + 4, none⟩ (.bool x.le)).setCell ⟨q, a + 5, none⟩ (.bool x.wa)).setCell ⟨q, a + 6, none⟩ (.bool x.ac)).setCell ⟨q, a + 7, none⟩ (.int .i64 x.r)).setCell ⟨q, a + 8, none⟩ (.int .i64 x.g)).setCell ⟨q, a + 9, none⟩ (.bool x.dn)).setCell ⟨q, a + 10, none⟩ (.int .i64 x.ct)
theorem Jx.put (h : Jx w base p n c g bm (.slice (some ⟨q, 0, none⟩) m cap) m A T D Fc L) (i : Nat) (x : Tk) : Jx (put11 w q (i * 11) x) base p n c g bm (.slice (some ⟨q, 0, none⟩) m cap) m A (upd T i x) D Fc L ∧ Ke (FJ g bm (.slice (some ⟨q, 0, none⟩) m cap) Fc) w (put11 w q (i * 11) x) := by
  have s1 : ∀ {W : World} (a : Nat) (u : Value), Ke (fun j => (Value.slice (some ⟨q, 0, none⟩) m cap).ownBlock = some j) w W → Ke (fun j => (Value.slice (some ⟨q, 0, none⟩) m cap).ownBlock = some j) w (W.setCell ⟨q, a, none⟩ u) := fun {W} a u k => Ke.set k (p := ⟨q, a, none⟩) (.inl rfl) u
  have K := s1 (i * 11 + 10) (.int .i64 x.ct) (s1 (i * 11 + 9) (.bool x.dn) (s1 (i * 11 + 8) (.int .i64 x.g) (s1 (i * 11 + 7) (.int .i64 x.r) (s1 (i * 11 + 6) (.bool x.ac) (s1 (i * 11 + 5) (.bool x.wa) (s1 (i * 11 + 4) (.bool x.le) (s1 (i * 11 + 3) (.bool x.sp) (s1 (i * 11 + 2) (.int .i64 x.p) (s1 (i * 11 + 1) (.int .i64 x.e) (s1 (i * 11) (.int .i64 x.id) (Ke.refl _ w)))))))))))
  have r := ((((((((((h.row.set (i * 11) (.int .i64 x.id)).set (i * 11 + 1) (.int .i64 x.e)).set (i * 11 + 2) (.int .i64 x.p)).set (i * 11 + 3) (.bool x.sp)).set (i * 11 + 4) (.bool x.le)).set (i * 11 + 5) (.bool x.wa)).set (i * 11 + 6) (.bool x.ac)).set (i * 11 + 7) (.int .i64 x.r)).set (i * 11 + 8) (.int .i64 x.g)).set (i * 11 + 9) (.bool x.dn)).set (i * 11 + 10) (.int .i64 x.ct)
  have e := tc_set11 T i x
  simp only [fld] at e
  rw [← e] at r
  exact ⟨h.turn K r, Jx.turn_ke K⟩

/-- remove. -/
def RmJ (w : World) (base p n c g bm : Nat) (v : Value) (m : Nat) (A' : Nat → Option Int) (T' : Nat → Tk) (Fc : Nat → Prop) (L : List Ky) (w' : World) : Prop := ∃ D', Jx w' base p n c g bm v m A' T' D' Fc L ∧ Ke (FJ g bm v Fc) w w'
theorem drop_jx (h : Jx w base p n c g bm v m A T D Fc L) {s : Nat} {i : Int} (hi : (Lit.int .i64 i).wf = true) (hs : A s = some i) :
    Calls Tryd.prog 50 #[.pointer (some ⟨p, 0, none⟩), .int .i64 i] w fun e w' => e = .returned (.bool true) ∧ RmJ w base p n c g bm v m (upd A s none) T Fc L w' := by
  refine (drop_some p g bm n A D w h.rep i hi s hs).mono ?_
  rintro e w' ⟨rfl, k, r⟩
  have h1 := h.table k r (fun t ht => by
    by_cases q : t = s
    · subst q; rw [upd_same] at ht; exact absurd rfl ht
    · rw [upd_other _ _ q] at ht; exact h.tk t ht)
  have h2 := h.table_ke k
  exact ⟨rfl, _, h1, h2⟩
theorem remove_any' (h : Jx w base p n c g bm (.slice (some ⟨q, 0, none⟩) m cap) m A T D Fc L) {s : Nat} {i : Int} (hi : (Lit.int .i64 i).wf = true) (hs : A s = some i) :
    Calls Tryd.prog 33 #[.pointer (some ⟨p, 0, none⟩), .int .i64 i] w fun e w' => e = .returned (.tuple #[]) ∧ RmJ w base p n c g bm (.slice (some ⟨q, 0, none⟩) m cap) m (upd A s none) (upd T s zeroT) Fc L w' := by
  have C := Lib.hid (get_some p g bm n A D w h.rep i hi s hs)
  have DR := Lib.hid (drop_jx h hi hs)
  have hsm := (h.form hs).1
  have hn := h.rep.n4
  have hmn := h.mn
  clear h hs
  go_enter Tryd.func33, Tryd.ntmps33
  go_wp2_with fail
  refine C.out.mono ?_
  rintro e w1 ⟨rfl, hw⟩
  obtain rfl := hw.symm
  clear hw C
  go_wp2_with fail
  refine DR.out.mono ?_
  rintro e w2 ⟨rfl, D', h2, k2⟩
  have K2 := Lib.hid k2
  have pt := h2.put s zeroT
  obtain ⟨zt, hzt⟩ : ∃ z, z = zeroT := ⟨_, rfl⟩
  rw [← hzt] at pt
  simp only [put11, show zt.id = 0 by rw [hzt]; rfl, show zt.e = 0 by rw [hzt]; rfl, show zt.p = 0 by rw [hzt]; rfl, show zt.sp = false by rw [hzt]; rfl, show zt.le = false by rw [hzt]; rfl, show zt.wa = false by rw [hzt]; rfl, show zt.ac = false by rw [hzt]; rfl, show zt.r = 0 by rw [hzt]; rfl, show zt.g = 0 by rw [hzt]; rfl, show zt.dn = false by rw [hzt]; rfl, show zt.ct = 0 by rw [hzt]; rfl] at pt
  have HZ := Lib.hid hzt
  clear hzt
  have PT := Lib.hid pt
  clear pt
  have c67 := h2.c67
  have hz : (s : Int) < (m : Int) := by omega
  have k0 := h2.cell hsm (o := 0) (by omega)
  have k1 := h2.cell hsm (o := 1) (by omega)
  have k2' := h2.cell hsm (o := 2) (by omega)
  have k3 := h2.cell hsm (o := 3) (by omega)
  have k4 := h2.cell hsm (o := 4) (by omega)
  have k5 := h2.cell hsm (o := 5) (by omega)
  have k6 := h2.cell hsm (o := 6) (by omega)
  have k7 := h2.cell hsm (o := 7) (by omega)
  have k8 := h2.cell hsm (o := 8) (by omega)
  have k9 := h2.cell hsm (o := 9) (by omega)
  have k10 := h2.cell hsm (o := 10) (by omega)
  have z := h2.frozen
  have z0 := z (s * 11)
  have z1 := z (s * 11 + 1)
  have z2 := z (s * 11 + 2)
  have z3 := z (s * 11 + 3)
  have z4 := z (s * 11 + 4)
  have z5 := z (s * 11 + 5)
  have z6 := z (s * 11 + 6)
  have z7 := z (s * 11 + 7)
  have z8 := z (s * 11 + 8)
  have z9 := z (s * 11 + 9)
  have z10 := z (s * 11 + 10)
  simp only [fld, Nat.add_zero] at k0 k1 k2' k3 k4 k5 k6 k7 k8 k9 k10
  clear z DR h2 k2 hn hmn hi
  generalize T s = x at k0 k1 k2' k3 k4 k5 k6 k7 k8 k9 k10
  go_wp2_with fail
  go_end0
  have hj := PT.out.1
  rw [HZ.out] at hj
  have hk := K2.out.trans PT.out.2
  exact ⟨rfl, D', hj, hk⟩
end
end Go.Proofs.YtlpjojegdnconaaDoor

namespace Go.Proofs.YtlpjojegdnconaaDoor
open Go.RowKit Go.Lib Go.Maps
open Ca (Ke Gr Sv Row Cl Ky Bs blk_other)
set_option linter.unusedVariables false
set_option maxRecDepth 100000
set_option maxHeartbeats 2000000

/-- Jobs of n slots at p hold the tasks S; at most c jobs began; its blocks are F. -/
structure Jb (w : World) (base p n c : Nat) (F : Nat → Prop) (S : List Tk) : Prop where
  ex : ∃ g bm v m A T D Fc L, Jx w base p n c g bm v m A T D Fc L ∧ At c A T ∧ Sl S A T ∧ Lk A T L ∧ F = FJ g bm v Fc
section
variable {w w' : World} {base p n c : Nat} {F G : Nat → Prop} {S : List Tk}
theorem Jb.ke (h : Jb w base p n c F S) (K : Ke G w w') (hG : ∀ j, F j → ¬ G j) : Jb w' base p n c F S := by
  obtain ⟨g, bm, v, m, A, T, D, Fc, L, hx, a, sl, lk, rfl⟩ := h.ex
  exact ⟨g, bm, v, m, A, T, D, Fc, L, hx.ke K hG, a, sl, lk, rfl⟩
theorem Jb.gr (h : Jb w base p n c F S) (K : Gr w w') : Jb w' base p n c F S := h.ke K (fun _ _ q => q)
theorem Jb.lt (h : Jb w base p n c F S) {k : Nat} (hk : F k) : base ≤ k ∧ k < w.heap.size := by
  obtain ⟨g, bm, v, m, A, T, D, Fc, L, hx, a, sl, lk, rfl⟩ := h.ex
  exact hx.lt hk
theorem Jb.self (h : Jb w base p n c F S) : F p := by
  obtain ⟨g, bm, v, m, A, T, D, Fc, L, hx, a, sl, lk, rfl⟩ := h.ex
  exact .inr (.inr (.inr hx.self))
theorem Jb.srt (h : Jb w base p n c F S) : Srt S := by
  obtain ⟨g, bm, v, m, A, T, D, Fc, L, hx, a, sl, lk, rfl⟩ := h.ex
  exact sl.srt
theorem Jb.ok (h : Jb w base p n c F S) {x : Tk} (hx : x ∈ S) : OkT c x := by
  obtain ⟨g, bm, v, m, A, T, D, Fc, L, hx', a, sl, lk, rfl⟩ := h.ex
  obtain ⟨s, h1, rfl⟩ := (sl.mem x).1 hx
  exact a.ok s _ h1
end

/-- What lies at the table's cells. -/
theorem rep_cells {w : World} {p g bm n : Nat} {A : Nat → Option Int} {D : DataW Unit} (h : Rep w p g bm n A D) : ∃ f : Nat → Value, ∀ j, j < 67 → w.cell? ⟨p, j, none⟩ = some (f j) := by
  obtain ⟨F, S, hb, r⟩ := h.room
  refine ⟨fun j => if j = 0 then .slice (some ⟨g, 0, none⟩) n n else if j = 1 then .map (some bm) else if j < 66 then .int .u64 (F (j - 2)) else .int .u64 S, fun j hj => ?_⟩
  by_cases e0 : j = 0
  · subst e0; exact h.ids
  · by_cases e1 : j = 1
    · subst e1; exact h.mp
    · dsimp only
      rw [if_neg e0, if_neg e1]
      by_cases e2 : j < 66
      · rw [if_pos e2]
        have := r.c (j - 2) (by omega)
        rwa [show 2 + (j - 2) = j by omega] at this
      · obtain rfl : j = 66 := by omega
        rw [if_neg e2]; exact r.s

def sixC : List Value := [.slice none 0 0, .map none, .slice none 0 0, .int .i64 0, .slice none 0 0, .pointer none]
theorem fold80 (f : Nat → Value) : List.foldl (fun (cs : Array Value) (x : Value × Nat) => cs.setIfInBounds x.snd x.fst) Tryd.zeroCells80 ((List.range 67).map f).zipIdx = ((List.range 67).map f ++ sixC).toArray := by kernel_rfl
theorem size68 : (Tryd.prog.info? 68).map (·.size) = some 67 := by kernel_rfl

/-- The block that New lays. -/
theorem jx_new {w W : World} {base p0 g bm m : Nat} {f : Nat → Value} (hm : m ≤ 4096) (hb : base ≤ w.heap.size) (hp : w.heap.size ≤ p0) (hg : w.heap.size ≤ g) (hbm : w.heap.size ≤ bm) (BL : Below w.heap.size w W) (R : Rep W p0 g bm m (fun _ => none) (.map [])) (hf : ∀ j, j < 67 → W.cell? ⟨p0, j, none⟩ = some (f j)) {C : Array Value} (hC : C = ((List.range 67).map f ++ sixC).toArray) :
    Jx (W.alloc (.cells C 80)) base W.heap.size m 0 g bm (.slice none 0 0) 0 (fun _ => none) (fun _ => zeroT) (.map []) (fun k => k = W.heap.size) [] ∧ Gr w (W.alloc (.cells C 80)) := by
  have hs := BL.size
  have hgl := R.gl
  have hml := R.ml
  have blk : (W.alloc (.cells C 80)).heap[W.heap.size]? = some (.cells C 80 (0, 0)) := heap_alloc_new W _
  have cell : ∀ o, (W.alloc (.cells C 80)).cell? ⟨W.heap.size, o, none⟩ = C[o]? := fun o => by simp only [World.cell?, blk]; simp
  have fz : ∀ o, (W.alloc (.cells C 80)).frozen? ⟨W.heap.size, o, none⟩ = false := fun o => by simp only [World.frozen?, blk]; simp
  have lowc : ∀ j, j < 67 → (W.alloc (.cells C 80)).cell? ⟨W.heap.size, j, none⟩ = W.cell? ⟨p0, j, none⟩ := fun j hj => by
    rw [cell, hf j hj, hC]
    simp [List.getElem?_append_left, hj]
  have six : ∀ j, (W.alloc (.cells C 80)).cell? ⟨W.heap.size, 67 + j, none⟩ = sixC[j]? := fun j => by
    rw [cell, hC]
    simp [List.getElem?_append_right]
  have eg := Below.heap_alloc W (.cells C 80) g R.gl
  have em := Below.heap_alloc W (.cells C 80) bm R.ml
  obtain ⟨F, S, hbt, r⟩ := R.room
  have rep : Rep (W.alloc (.cells C 80)) W.heap.size g bm m (fun _ => none) (.map []) := {
    n4 := hm, pg := by omega, pm := by omega, gm := R.gm
    pl := by simp, gl := by simp; omega, ml := by simp; omega
    ids := (lowc 0 (by omega)).trans R.ids, mp := (lowc 1 (by omega)).trans R.mp
    room := ⟨F, S, hbt, ⟨fun k hk => (lowc (2 + k) (by omega)).trans (r.c k hk), (lowc 66 (by omega)).trans r.s, fz⟩⟩
    out := fun _ _ => rfl, wf := fun _ _ h => (by cases h)
    cell := fun s hs => by
      obtain ⟨v, h1, h2⟩ := R.cell s hs
      exact ⟨v, (World.cell?_of_block eg).trans h1, h2⟩
    gz := fun o => (World.frozen?_of_block eg).trans (R.gz o)
    own := by obtain ⟨es, cl, h1, h2⟩ := R.own; exact ⟨es, cl, em.trans h1, h2⟩
    map := R.map, size := R.size }
  have gr : Gr w (W.alloc (.cells C 80)) := ⟨BL.os, BL.tape, BL.output, by simp; omega, fun k hk _ => (Below.heap_alloc W _ k (by omega)).trans (BL.block k hk)⟩
  refine ⟨?_, gr⟩
  exact {
    bg := by omega, bb := by omega, rep := rep
    c67 := six 0
    row := World.ownsRow_nil _ _ _ _
    cl := Ca.cl_start _ base _ (by omega) (by simp) (six 1) (six 2) (six 3) (six 4) (six 5) fz
    mn := by omega
    tk := fun s h => absurd rfl h
    vp := by simp [Value.ownBlock], vg := by simp [Value.ownBlock], vm := by simp [Value.ownBlock]
    fv := fun k hk => by simp [Value.ownBlock] at hk
    fg := fun e => by have : g = W.heap.size := e; omega
    fm := fun e => by have : bm = W.heap.size := e; omega }

/-- What New leaves. -/
def NewJ (w : World) (base m : Nat) (e : Ending) (w' : World) : Prop := ∃ p F, e = .returned (.pointer (some ⟨p, 0, none⟩)) ∧ Jb w' base p m 0 F [] ∧ Gr w w' ∧ ∀ k, F k → w.heap.size ≤ k
theorem new_jb (x : Int) (m : Nat) (w : World) (base : Nat) (hb : base ≤ w.heap.size) (hm : m ≤ 4096) (hlo : (if x < 0 then 0 else x) = (m : Int)) :
    Calls Tryd.prog 9 #[.int .i64 x] w fun e w' => NewJ w base m e w' := by
  have C0 := Lib.hid (new_any x m w hm hlo)
  clear hlo
  go_enter Tryd.func9, Tryd.ntmps9
  go_wp2_with fail
  refine C0.out.mono ?_
  rintro e W ⟨p0, g, bm, rfl, hp, hg, hbm, BL, R⟩
  obtain ⟨f, hf⟩ := rep_cells R
  obtain ⟨cs, hcs⟩ : ∃ cs, cs = (List.range 67).map f := ⟨_, rfl⟩
  have hr : W.rangeAt p0 0 cs := fun j v hv => by
    rw [hcs] at hv
    rw [Nat.zero_add]
    have hj : j < 67 := by
      rcases Nat.lt_or_ge j 67 with q | q
      · exact q
      · rw [List.getElem?_eq_none (by simp; omega)] at hv; cases hv
    rw [hf j hj]
    simpa [hj] using hv
  have hsz : (Tryd.prog.info? 68).map (·.size) = some cs.length := by rw [size68, hcs]; simp
  obtain ⟨C, hC⟩ : ∃ C, C = ((List.range 67).map f ++ sixC).toArray := ⟨_, rfl⟩
  have hlen : cs.length = 67 := by rw [hcs]; simp
  have hfold : List.foldl (fun (cs : Array Value) (x : Value × Nat) => cs.setIfInBounds x.snd x.fst) Tryd.zeroCells80 cs.zipIdx = C := by rw [hcs, hC]; exact fold80 f
  have J := Lib.hid (jx_new hm hb hp hg hbm BL R hf hC)
  have HR := Lib.hid hr
  have R0 : w.heap.size ≤ W.heap.size := BL.size
  clear hf hr hcs hC R C0 BL hm
  go_wp2_with (refine wpList_load_mid rfl 68 _ rfl p0 0 rfl cs _ HR.out Tryd.underlying68 rfl hsz ?_)
  go_ret
  refine ⟨W.heap.size, _, rfl, ⟨g, bm, _, 0, _, _, _, _, [], J.out.1, ⟨fun s i q => (by cases q), fun s i q => (by cases q), fun s t i q => (by cases q)⟩, ⟨.nil, fun x => by simp⟩, ⟨fun k => by simp, .nil⟩, rfl⟩, J.out.2, fun k hk => ?_⟩
  rcases hk with q | q | q | q
  · omega
  · omega
  · simp [Value.ownBlock] at q
  · have h1 := W.heap.size
    have : k = W.heap.size := q
    have := R0
    omega
end Go.Proofs.YtlpjojegdnconaaDoor

namespace Go.Proofs.YtlpjojegdnconaaDoor
open Go.RowKit Go.Lib Go.Maps
open Ca (Ke Gr Sv Row Cl Ky Bs blk_other)
set_option linter.unusedVariables false
set_option maxRecDepth 100000
set_option maxHeartbeats 2000000

/-! ### plain -/
def lvB (S : List Tk) (i : Int) : Bool := match getT S i with | none => false | some x => !x.le && !x.ac
def lvE (S : List Tk) (i : Int) : Int := match getT S i with | none => 5 | some x => if x.le = true then 13 else 0
def lvS (S : List Tk) (i : Int) : List Tk := match getT S i with | none => S | some x => if x.le = true then S else if x.ac = true then setT S (leaT x) else delT S i
def arE (S : List Tk) (i : Int) : Int := match getT S i with | none => 5 | some x => if x.sp = false then 9 else if x.le = true then 13 else if x.ac = true ∨ x.wa = true then 10 else 0
def arS (S : List Tk) (i : Int) : List Tk := match getT S i with | none => S | some x => if x.sp = false then S else if x.le = true then S else if x.ac = true ∨ x.wa = true then S else setT S (waiT x)
def fiE (S : List Tk) (i : Int) : Int := match getT S i with | none => 5 | some x => if x.ac = false then 11 else if x.dn = true ∨ x.g = x.e then 12 else 0
def fiS (S : List Tk) (i : Int) : List Tk := match getT S i with | none => S | some x => if x.ac = false then S else if x.dn = true ∨ x.g = x.e then S else setT S (donT x)
def gvB (S : List Tk) (i : Int) : Bool := match getT S i with | none => false | some x => x.ac && !decide (x.g = x.e)
def gvS (S : List Tk) (i : Int) : List Tk := match getT S i with | none => S | some x => if x.ac = true ∧ x.g ≠ x.e then setT S (givT x) else S

/-- What a call leaves. -/
def JQ (w : World) (base p n c : Nat) (F : Nat → Prop) (S : List Tk) (w' : World) : Prop := ∃ F', Jb w' base p n c F' S ∧ Sv F F' w w'
theorem jq_same {w : World} {base p n c : Nat} {F : Nat → Prop} {S : List Tk} (h : Jb w base p n c F S) : JQ w base p n c F S w := ⟨F, h, Ca.Sv.refl _ _⟩
theorem jq_gr {w w' : World} {base p n c : Nat} {F : Nat → Prop} {S : List Tk} (h : Jb w base p n c F S) (g : Gr w w') : JQ w base p n c F S w' := ⟨F, h.gr g, Ca.Sv.of_gr g⟩
section
variable {w : World} {base p n c g bm : Nat} {v : Value} {m : Nat} {A : Nat → Option Int} {T : Nat → Tk} {D : DataW Unit} {Fc : Nat → Prop} {L : List Ky} {q cap : Nat} {S : List Tk} {F : Nat → Prop}
theorem jb_of (h : Jx w base p n c g bm v m A T D Fc L) (a : At c A T) (sl : Sl S A T) (lk : Lk A T L) : Jb w base p n c (FJ g bm v Fc) S := ⟨g, bm, v, m, A, T, D, Fc, L, h, a, sl, lk, rfl⟩
theorem jb_set (h : Jx w base p n c g bm (.slice (some ⟨q, 0, none⟩) m cap) m A T D Fc L) (a : At c A T) (sl : Sl S A T) (lk : Lk A T L) {s : Nat} {i : Int} (hs : A s = some i) (k : Nat) (hk : k < 11) (x : Tk) (u : Value) (hf : ∀ o, o < 11 → fld x o = if o = k then u else fld (T s) o) (hid : x.id = i) (ok : OkT c x) (e1 : x.ac = (T s).ac) (e2 : x.r = (T s).r) (e3 : x.p = (T s).p) :
    JQ w base p n c (FJ g bm (.slice (some ⟨q, 0, none⟩) m cap) Fc) (setT S x) (w.setCell ⟨q, s * 11 + k, none⟩ u) := by
  obtain ⟨h1, K⟩ := h.set s k hk x u hf
  have K2 : Ke (FJ g bm (.slice (some ⟨q, 0, none⟩) m cap) Fc) w (w.setCell ⟨q, s * 11 + k, none⟩ u) := Jx.turn_ke K
  exact ⟨_, jb_of h1 (a.set hs hid ok) (sl.set a hs hid) (lk.same e1 e2 e3), ⟨K2, fun _ z => .inl z⟩⟩

theorem fld_lea (x : Tk) (o : Nat) (ho : o < 11) : fld (leaT x) o = if o = 4 then .bool true else fld x o := by
  rcases (show o = 0 ∨ o = 1 ∨ o = 2 ∨ o = 3 ∨ o = 4 ∨ o = 5 ∨ o = 6 ∨ o = 7 ∨ o = 8 ∨ o = 9 ∨ o = 10 by omega) with rfl | rfl | rfl | rfl | rfl | rfl | rfl | rfl | rfl | rfl | rfl <;> rfl
theorem fld_wai (x : Tk) (o : Nat) (ho : o < 11) : fld (waiT x) o = if o = 5 then .bool true else fld x o := by
  rcases (show o = 0 ∨ o = 1 ∨ o = 2 ∨ o = 3 ∨ o = 4 ∨ o = 5 ∨ o = 6 ∨ o = 7 ∨ o = 8 ∨ o = 9 ∨ o = 10 by omega) with rfl | rfl | rfl | rfl | rfl | rfl | rfl | rfl | rfl | rfl | rfl <;> rfl
theorem fld_don (x : Tk) (o : Nat) (ho : o < 11) : fld (donT x) o = if o = 9 then .bool true else fld x o := by
  rcases (show o = 0 ∨ o = 1 ∨ o = 2 ∨ o = 3 ∨ o = 4 ∨ o = 5 ∨ o = 6 ∨ o = 7 ∨ o = 8 ∨ o = 9 ∨ o = 10 by omega) with rfl | rfl | rfl | rfl | rfl | rfl | rfl | rfl | rfl | rfl | rfl <;> rfl
theorem fld_giv (x : Tk) (o : Nat) (ho : o < 11) : fld (givT x) o = if o = 8 then .int .i64 (x.g + 1) else fld x o := by
  rcases (show o = 0 ∨ o = 1 ∨ o = 2 ∨ o = 3 ∨ o = 4 ∨ o = 5 ∨ o = 6 ∨ o = 7 ∨ o = 8 ∨ o = 9 ∨ o = 10 by omega) with rfl | rfl | rfl | rfl | rfl | rfl | rfl | rfl | rfl | rfl | rfl <;> rfl

/-! ### Leave -/
theorem leave_jb (h : Jb w base p n c F S) (i : Int) (hi : (Lit.int .i64 i).wf = true) :
    Calls Tryd.prog 12 #[.pointer (some ⟨p, 0, none⟩), .int .i64 i] w fun e w' => e = .returned (.tuple #[.bool (lvB S i), .int .i64 (lvE S i)]) ∧ JQ w base p n c F (lvS S i) w' := by
  have H0 := Lib.hid h
  obtain ⟨g, bm, v, m, A, T, D, Fc, L, hx, a, sl, lk, rfl⟩ := h.ex
  clear h
  unfold lvB lvE lvS
  cases hg : getT S i with
  | none =>
    have C := Lib.hid (here_none hx hi (sl.not_at a hg))
    clear hx a sl lk hg
    go_enter Tryd.func12, Tryd.ntmps12
    go_wp2_with fail
    refine C.out.mono ?_
    rintro e w1 ⟨rfl, hw⟩
    obtain rfl := hw.symm
    clear hw C
    go_wp2_with fail
    go_ret2
    exact ⟨rfl, jq_same H0.out⟩
  | some x =>
    obtain ⟨s, hs, hT⟩ := sl.back hg
    obtain ⟨hsm, q, cap, rfl⟩ := hx.form hs
    have C := Lib.hid (here_some hx hi hs)
    have k4 := hx.cell hsm (o := 4) (by omega)
    have k6 := hx.cell hsm (o := 6) (by omega)
    have z4 := hx.frozen (s * 11 + 4)
    have ok := a.ok s i hs
    have hid := a.id s i hs
    rw [hT] at k4 k6 ok hid
    simp only [fld] at k4 k6
    have R1 : Hid (x.ac = true → JQ w base p n c (FJ g bm (.slice (some ⟨q, 0, none⟩) m cap) Fc) (setT S (leaT x)) (w.setCell ⟨q, s * 11 + 4, none⟩ (.bool true))) := fun ha => jb_set hx a sl lk hs 4 (by omega) (leaT x) _ (fun o ho => by rw [hT]; exact fld_lea x o ho) hid (ok.lea ha) (by rw [hT]; rfl) (by rw [hT]; rfl) (by rw [hT]; rfl)
    have RM := Lib.hid (remove_any' hx hi hs)
    have R2 : Hid (x.ac = false → ∀ W, RmJ w base p n c g bm (.slice (some ⟨q, 0, none⟩) m cap) m (upd A s none) (upd T s zeroT) Fc L W → JQ w base p n c (FJ g bm (.slice (some ⟨q, 0, none⟩) m cap) Fc) (delT S i) W) := fun ha W ⟨D', h1, h2⟩ => by
      have hT' : ∀ t, t ≠ s → upd T s zeroT t = T t := fun t ht => upd_other _ _ ht
      exact ⟨_, jb_of h1 (a.del hT') (sl.del a hs hT') (lk.del (by rw [hT]; exact ha) hT'), ⟨h2, fun _ z => .inl z⟩⟩
    clear hx a sl lk hg hs hT ok hid hsm
    obtain ⟨le, hle⟩ : ∃ le, x.le = le := ⟨_, rfl⟩
    obtain ⟨ac, hac⟩ : ∃ ac, x.ac = ac := ⟨_, rfl⟩
    rw [hle] at k4
    rw [hac] at k6 R1 R2
    simp only [hle, hac]
    clear hle hac
    go_enter Tryd.func12, Tryd.ntmps12
    go_wp2_with fail
    refine C.out.mono ?_
    rintro e w1 ⟨rfl, hw⟩
    obtain rfl := hw.symm
    clear hw C
    cases le
    · cases ac
      · go_wp2_with fail
        refine RM.out.mono ?_
        rintro e w2 ⟨rfl, h2⟩
        have h3 := R2.out (by simp) _ h2
        have H3 := Lib.hid h3
        clear h2 h3 R2 RM
        go_wp2_with fail
        go_ret2
        exact ⟨rfl, H3.out⟩
      · have H3 := Lib.hid (R1.out (by simp))
        clear R1 R2 RM
        go_wp2_with fail
        go_ret2
        exact ⟨rfl, H3.out⟩
    · clear R1 R2 RM
      go_wp2_with fail
      go_ret2
      exact ⟨rfl, jq_same H0.out⟩

/-! ### Arrive -/
theorem arrive_jb (h : Jb w base p n c F S) (i : Int) (hi : (Lit.int .i64 i).wf = true) :
    Calls Tryd.prog 14 #[.pointer (some ⟨p, 0, none⟩), .int .i64 i] w fun e w' => e = .returned (.int .i64 (arE S i)) ∧ JQ w base p n c F (arS S i) w' := by
  have H0 := Lib.hid h
  obtain ⟨g, bm, v, m, A, T, D, Fc, L, hx, a, sl, lk, rfl⟩ := h.ex
  clear h
  unfold arE arS
  cases hg : getT S i with
  | none =>
    have C := Lib.hid (here_none hx hi (sl.not_at a hg))
    clear hx a sl lk hg
    go_enter Tryd.func14, Tryd.ntmps14
    go_wp2_with fail
    refine C.out.mono ?_
    rintro e w1 ⟨rfl, hw⟩
    obtain rfl := hw.symm
    clear hw C
    go_wp2_with fail
    go_ret
    exact ⟨rfl, jq_same H0.out⟩
  | some x =>
    obtain ⟨s, hs, hT⟩ := sl.back hg
    obtain ⟨hsm, q, cap, rfl⟩ := hx.form hs
    have C := Lib.hid (here_some hx hi hs)
    have k3 := hx.cell hsm (o := 3) (by omega)
    have k4 := hx.cell hsm (o := 4) (by omega)
    have k5 := hx.cell hsm (o := 5) (by omega)
    have k6 := hx.cell hsm (o := 6) (by omega)
    have z5 := hx.frozen (s * 11 + 5)
    have ok := a.ok s i hs
    have hid := a.id s i hs
    rw [hT] at k3 k4 k5 k6 ok hid
    simp only [fld] at k3 k4 k5 k6
    have R1 : Hid (JQ w base p n c (FJ g bm (.slice (some ⟨q, 0, none⟩) m cap) Fc) (setT S (waiT x)) (w.setCell ⟨q, s * 11 + 5, none⟩ (.bool true))) := jb_set hx a sl lk hs 5 (by omega) (waiT x) _ (fun o ho => by rw [hT]; exact fld_wai x o ho) hid ok.wai (by rw [hT]; rfl) (by rw [hT]; rfl) (by rw [hT]; rfl)
    clear hx a sl lk hg hs hT ok hid hsm
    obtain ⟨sp, hsp⟩ : ∃ sp, x.sp = sp := ⟨_, rfl⟩
    obtain ⟨le, hle⟩ : ∃ le, x.le = le := ⟨_, rfl⟩
    obtain ⟨wa, hwa⟩ : ∃ wa, x.wa = wa := ⟨_, rfl⟩
    obtain ⟨ac, hac⟩ : ∃ ac, x.ac = ac := ⟨_, rfl⟩
    rw [hsp] at k3
    rw [hle] at k4
    rw [hwa] at k5
    rw [hac] at k6
    simp only [hsp, hle, hac, hwa]
    clear hsp hle hac hwa
    go_enter Tryd.func14, Tryd.ntmps14
    go_wp2_with fail
    refine C.out.mono ?_
    rintro e w1 ⟨rfl, hw⟩
    obtain rfl := hw.symm
    clear hw C
    cases sp
    · clear R1
      go_wp2_with fail
      go_ret
      exact ⟨rfl, jq_same H0.out⟩
    · cases le
      · cases ac
        · cases wa
          · go_wp2_with fail
            go_ret
            exact ⟨rfl, R1.out⟩
          · clear R1
            go_wp2_with fail
            go_ret
            exact ⟨rfl, jq_same H0.out⟩
        · clear R1
          go_wp2_with fail
          go_ret
          exact ⟨rfl, jq_same H0.out⟩
      · clear R1
        go_wp2_with fail
        go_ret
        exact ⟨rfl, jq_same H0.out⟩
end
end Go.Proofs.YtlpjojegdnconaaDoor
