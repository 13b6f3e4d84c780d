/- Jobs: contract of Release by the list of tasks. -/
import Derived.Test.YtlpjojegdnconaaDoorQ9
namespace Go.Proofs.YtlpjojegdnconaaDoor
open Go.RowKit Go.Lib Go.Maps
open Ca (Ke Gr Sv Row Cl Ky Bs blk_other)
set_option linter.unusedVariables false
set_option maxRecDepth 100000
set_option maxHeartbeats 2000000

/-- Release on its way: k slots were looked at. -/
structure ReI (w : World) (base p n c g bm : Nat) (v : Value) (m : Nat) (A : Nat → Option Int) (T : Nat → Tk) (D : DataW Unit) (F : Nat → Prop) (t : Int) (k : Nat) (u : Value) (wr : World) : Prop where
  ex : ∃ Fc L, Jx wr base p n (c + (rI A T k).length) g bm v m A (TR t A T k) D Fc L ∧ At (c + (rI A T k).length) A (TR t A T k) ∧ Lk A (TR t A T k) L ∧ Sv F (FJ g bm v Fc) w wr ∧ ∀ j, u.ownBlock = some j → ¬ FJ g bm v Fc j
  row : RowI wr w.heap.size u (rI A T k)
section
variable {w : World} {base p n c g bm : Nat} {v : Value} {m : Nat} {A : Nat → Option Int} {T : Nat → Tk} {D : DataW Unit} {Fc : Nat → Prop} {L : List Ky} {q cap : Nat} {S : List Tk} {F : Nat → Prop} {t : Int} {k : Nat} {u : Value} {wr : World}
theorem rei_start (hx : Jx w base p n c g bm v m A T D Fc L) (a : At c A T) (lk : Lk A T L) (t : Int) : ReI w base p n c g bm v m A T D (FJ g bm v Fc) t 0 (.slice none 0 0) w :=
  ⟨⟨Fc, L, by rw [TR_zero]; exact hx, by rw [TR_zero]; exact a, by rw [TR_zero]; exact lk, Ca.Sv.refl _ _, fun j hj => by simp [Value.ownBlock] at hj⟩, World.ownsRow_nil _ _ _ _⟩
theorem ReI.gr (h : ReI w base p n c g bm v m A T D F t k u wr) {w' : World} (G : Gr wr w') : ReI w base p n c g bm v m A T D F t k u w' := by
  obtain ⟨Fc, L, hx, a, lk, sv, nf⟩ := h.ex
  have s2 := sv.trans (Ca.Sv.of_gr G)
  exact ⟨⟨Fc, L, hx.gr G, a, lk, s2, nf⟩, Row.keep h.row (fun j hj => G.block j (Row.lt h.row hj).2 (fun z => z))⟩
theorem ReI.skip (h : ReI w base p n c g bm v m A T D F t k u wr) (hn : ¬ ((A k).isSome = true ∧ ready (T k) = true)) : ReI w base p n c g bm v m A T D F t (k + 1) u wr := by
  have e1 : rI A T (k + 1) = rI A T k := by show rI A T k ++ _ = _; rw [if_neg hn, List.append_nil]
  have e2 : TR t A T (k + 1) = TR t A T k := TR_no t hn
  refine ⟨?_, ?_⟩
  · rw [e1, e2]; exact h.ex
  · rw [e1]; exact h.row
/-- The task's four cells. -/
theorem fld_beg (x : Tk) (t : Int) : (∀ o, o < 11 → fld { x with ac := true } o = if o = 6 then .bool true else fld x o) ∧ (∀ o, o < 11 → fld { x with ac := true, wa := false } o = if o = 5 then .bool false else fld { x with ac := true } o) ∧ (∀ o, o < 11 → fld { x with ac := true, wa := false, r := t } o = if o = 7 then .int .i64 t else fld { x with ac := true, wa := false } o) ∧ (∀ o, o < 11 → fld (begT t x) o = if o = 10 then .int .i64 (x.ct + 1) else fld { x with ac := true, wa := false, r := t } o) := by
  refine ⟨fun o ho => ?_, fun o ho => ?_, fun o ho => ?_, fun o ho => ?_⟩ <;> (rcases (show o = 0 ∨ o = 1 ∨ o = 2 ∨ o = 3 ∨ o = 4 ∨ o = 5 ∨ o = 6 ∨ o = 7 ∨ o = 8 ∨ o = 9 ∨ o = 10 by omega) with rfl | rfl | rfl | rfl | rfl | rfl | rfl | rfl | rfl | rfl | rfl <;> rfl)
theorem Jx.set4 {T : Nat → Tk} (h : Jx w base p n c g bm (.slice (some ⟨q, 0, none⟩) m cap) m A T D Fc L) (i : Nat) {o1 o2 o3 o4 : Nat} {x1 x2 x3 x4 : Tk} {u1 u2 u3 u4 : Value} (h1 : o1 < 11) (h2 : o2 < 11) (h3 : o3 < 11) (h4 : o4 < 11)
    (e1 : ∀ o, o < 11 → fld x1 o = if o = o1 then u1 else fld (T i) o) (e2 : ∀ o, o < 11 → fld x2 o = if o = o2 then u2 else fld x1 o) (e3 : ∀ o, o < 11 → fld x3 o = if o = o3 then u3 else fld x2 o) (e4 : ∀ o, o < 11 → fld x4 o = if o = o4 then u4 else fld x3 o) :
    Jx ((((w.setCell ⟨q, i * 11 + o1, none⟩ u1).setCell ⟨q, i * 11 + o2, none⟩ u2).setCell ⟨q, i * 11 + o3, none⟩ u3).setCell ⟨q, i * 11 + o4, none⟩ u4) base p n c g bm (.slice (some ⟨q, 0, none⟩) m cap) m A (upd T i x4) D Fc L ∧ Ke (FJ g bm (.slice (some ⟨q, 0, none⟩) m cap) Fc) w ((((w.setCell ⟨q, i * 11 + o1, none⟩ u1).setCell ⟨q, i * 11 + o2, none⟩ u2).setCell ⟨q, i * 11 + o3, none⟩ u3).setCell ⟨q, i * 11 + o4, none⟩ u4) := by
  obtain ⟨j1, k1⟩ := h.set i o1 h1 x1 u1 e1
  obtain ⟨j2, k2⟩ := j1.set i o2 h2 x2 u2 (fun o ho => by rw [upd_same]; exact e2 o ho)
  rw [upd_upd] at j2
  obtain ⟨j3, k3⟩ := j2.set i o3 h3 x3 u3 (fun o ho => by rw [upd_same]; exact e3 o ho)
  rw [upd_upd] at j3
  obtain ⟨j4, k4⟩ := j3.set i o4 h4 x4 u4 (fun o ho => by rw [upd_same]; exact e4 o ho)
  rw [upd_upd] at j4
  exact ⟨j4, Jx.turn_ke (((k1.trans k2).trans k3).trans k4)⟩
/-- begin and await, of a task that is ready. -/
theorem begin_jx (hx : Jx w base p n c g bm (.slice (some ⟨q, 0, none⟩) m cap) m A T D Fc L) (a : At c A T) (lk : Lk A T L) {s : Nat} {i : Int} (hs : A s = some i) (hr : ready (T s) = true) (h0 : 0 ≤ t) (ht : t ≤ 1000000000000) (hc : c + 1 ≤ 65535) :
    Calls Tryd.prog 38 #[.pointer (some ⟨q, s * 11, none⟩), .int .i64 t] w fun e w1 => e = .returned (.tuple #[]) ∧ Ke (FJ g bm (.slice (some ⟨q, 0, none⟩) m cap) Fc) w w1 ∧ Jx w1 base p n c g bm (.slice (some ⟨q, 0, none⟩) m cap) m A (upd T s (begT t (T s))) D Fc L ∧
      Calls Tryd.prog 39 #[.pointer (some ⟨p, 0, none⟩), .pointer (some ⟨q, s * 11, none⟩)] w1 fun e w2 => e = .returned (.tuple #[]) ∧ ∃ Fc' L', Jx w2 base p n (c + 1) g bm (.slice (some ⟨q, 0, none⟩) m cap) m A (upd T s (begT t (T s))) D Fc' L' ∧ At (c + 1) A (upd T s (begT t (T s))) ∧ Lk A (upd T s (begT t (T s))) L' ∧ Sv (FJ g bm (.slice (some ⟨q, 0, none⟩) m cap) Fc) (FJ g bm (.slice (some ⟨q, 0, none⟩) m cap) Fc') w w2 := by
  have hsm := (hx.form hs).1
  have ok := a.ok s i hs
  have hid := a.id s i hs
  have hac : (T s).ac = false := by
    unfold ready at hr
    cases q : (T s).ac
    · rfl
    · rw [q] at hr; simp at hr
  have k6 := hx.cell hsm (o := 6) (by omega)
  have k5 := hx.cell hsm (o := 5) (by omega)
  have k7 := hx.cell hsm (o := 7) (by omega)
  have k10 := hx.cell hsm (o := 10) (by omega)
  have c0 := ok.c0
  have c1 := ok.cc
  refine (begin_any q (s * 11) _ _ t _ _ w k6 k5 k7 k10 hx.frozen c0 (by omega)).mono ?_
  rintro e w1 ⟨rfl, rfl⟩
  obtain ⟨f1, f2, f3, f4⟩ := fld_beg (T s) t
  obtain ⟨j4, K⟩ := hx.set4 s (by omega) (by omega) (by omega) (by omega) f1 f2 f3 f4
  refine ⟨rfl, K, j4, ?_⟩
  have hT1 : upd T s (begT t (T s)) s = begT t (T s) := upd_same _ _ _
  have AW := await_any j4 hs (by rw [hT1]; exact hid) (by rw [hT1]; exact ok.beg h0 ht) hc
  refine AW.mono ?_
  rintro e w2 ⟨rfl, Fc', j5, sv⟩
  have at1 := (a.more (Nat.le_succ c)).set hs (x := begT t (T s)) hid (ok.beg h0 ht)
  have lk1 := lk.put a hs hac t
  rw [hT1] at j5
  have e1 : ((begT t (T s)).r + (begT t (T s)).p, i) = (t + (T s).p, i) := rfl
  rw [e1] at j5
  have s0 : Sv (FJ g bm (.slice (some ⟨q, 0, none⟩) m cap) Fc) (FJ g bm (.slice (some ⟨q, 0, none⟩) m cap) Fc) w _ := ⟨K, fun _ z => .inl z⟩
  have s1 := j4.cal_sv sv
  have s2 := s0.trans s1
  exact ⟨rfl, Fc', _, j5, at1, lk1, s2⟩
theorem rei_step {Fc' : Nat → Prop} {L' : List Ky} {w2 : World} {y : Int} (hrow : RowI wr w.heap.size u (rI A T k)) (nf : ∀ j, u.ownBlock = some j → ¬ FJ g bm v Fc j) (sv : Sv F (FJ g bm v Fc) w wr) (hs : A k = some y) (hr : ready (T k) = true) (hid : (T k).id = y) (sv2 : Sv (FJ g bm v Fc) (FJ g bm v Fc') wr w2) (j2 : Jx w2 base p n (c + (rI A T k).length + 1) g bm v m A (upd (TR t A T k) k (begT t (T k))) D Fc' L') (a2 : At (c + (rI A T k).length + 1) A (upd (TR t A T k) k (begT t (T k)))) (lk2 : Lk A (upd (TR t A T k) k (begT t (T k))) L') (hk : k ≤ 4096) :
    ∃ u' w3, (Builtin.append_ #[42, 42] 42 #[u, .slice (some ⟨w2.heap.size, 0, none⟩) 1 1]).run Tryd.prog (w2.alloc (.cells #[.int .i64 y] 3)) = .ok u' w3 ∧ ReI w base p n c g bm v m A T D F t (k + 1) u' w3 := by
  have hle := rI_len (A := A) (T := T) k
  have hs1 := sv.ke.size
  have hs2 := sv2.ke.size
  have r2 : RowI w2 w.heap.size u (rI A T k) := Row.keep hrow (fun j hj => sv2.ke.block j (Row.lt hrow hj).2 (nf j hj))
  obtain ⟨u', w3, hrun, hg, hrow', hown⟩ := row_more r2 (by omega) (by omega) y
  refine ⟨u', w3, hrun, ?_⟩
  have K : Ke (fun j => u.ownBlock = some j) w2 w3 := ((Ke.refl _ w2).alloc _).grown hg (fun k e => .inl e)
  have nf2 : ∀ j, u.ownBlock = some j → ¬ FJ g bm v Fc' j := fun j hj z => by
    rcases sv2.ft j z with e | e
    · exact nf j hj e
    · have := (Row.lt hrow hj).2; omega
  have e1 : rI A T (k + 1) = rI A T k ++ [y] := by show rI A T k ++ _ = _; rw [if_pos ⟨by rw [hs]; rfl, hr⟩, hid]
  have e2 : TR t A T (k + 1) = upd (TR t A T k) k (begT t (T k)) := TR_yes t (by rw [hs]; rfl) hr
  have e3 : (rI A T (k + 1)).length = (rI A T k).length + 1 := by rw [e1]; simp
  have j3 := j2.ke K (fun j hj z => nf2 j z hj)
  have s12 := sv.trans sv2
  refine ⟨⟨Fc', L', ?_, ?_, ?_, ⟨⟨K.os.trans s12.ke.os, K.tape.trans s12.ke.tape, K.output.trans s12.ke.output, Nat.le_trans s12.ke.size K.size, fun j hj hn => ?_⟩, s12.ft⟩, fun j hj z => ?_⟩, by rw [e1]; exact hrow'⟩
  · rw [e3, e2]; exact j3
  · rw [e3, e2]; exact a2
  · rw [e2]; exact lk2
  · refine (K.block j (by omega) (fun z => ?_)).trans (s12.ke.block j hj hn)
    have := (Row.lt hrow z).1
    omega
  · rcases hown with e | e
    · rw [e] at hj; exact nf2 j hj z
    · rw [e] at hj
      have := (j2.lt z).2
      cases hj
      omega

/-- What Release leaves. -/
def RelQ (w : World) (base p n c : Nat) (F : Nat → Prop) (S : List Tk) (t : Int) (e : Ending) (w' : World) : Prop := ∃ u F', e = .returned u ∧ RowI w' w.heap.size u (relI S) ∧ Jb w' base p n (c + (relI S).length) F' (relT t S) ∧ Sv F F' w w' ∧ ∀ j, u.ownBlock = some j → ¬ F' j
/-- The end: the ids are sorted. -/
theorem rei_end (h : ReI w base p n c g bm v m A T D F t m u wr) (a : At c A T) (sl : Sl S A T) (tk : ∀ s, A s ≠ none → s < m) (hm : m ≤ 4096) :
    Calls Tryd.prog 40 #[u] wr fun e w' => e = .returned (.tuple #[]) ∧ RelQ w base p n c F S t (.returned u) w' := by
  have hl := rI_len (A := A) (T := T) m
  refine (sort_row h.row (by omega)).mono ?_
  rintro e w' ⟨rfl, r, K⟩
  obtain ⟨Fc, L, hx, a2, lk, sv, nf⟩ := h.ex
  have e1 := sl.relI a tk
  rw [e1] at r
  have e2 : (rI A T m).length = (relI S).length := by rw [← e1]; simp
  have j2 := hx.ke K (fun j hj z => nf j z hj)
  rw [e2] at j2 a2
  have b2 := jb_of j2 a2 (sl.rel a t tk) lk
  refine ⟨rfl, u, _, rfl, r, b2, ⟨⟨K.os.trans sv.ke.os, K.tape.trans sv.ke.tape, K.output.trans sv.ke.output, Nat.le_trans sv.ke.size K.size, fun j hj hn => ?_⟩, sv.ft⟩, nf⟩
  refine (K.block j (by have := sv.ke.size; omega) (fun z => ?_)).trans (sv.ke.block j hj hn)
  have := (Row.lt h.row z).1
  omega
end
end Go.Proofs.YtlpjojegdnconaaDoor
