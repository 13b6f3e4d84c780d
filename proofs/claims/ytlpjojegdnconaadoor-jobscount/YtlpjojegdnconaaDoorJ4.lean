/- The block of jobs in memory: the table, the row of tasks, the calendar; what turns one part leaves the others. -/
import Derived.Test.YtlpjojegdnconaaDoorJ3
namespace Go.Proofs.YtlpjojegdnconaaDoor.Ca
open Go.RowKit Go.Lib Go.Maps
set_option linter.unusedVariables false
set_option maxRecDepth 100000

/-! ### what lies ahead of the calendar was turned -/
/-- The same calendar, what lies ahead of it said anew. -/
abbrev Bs.at_ (base : Bs) (w : World) (p : Nat) : Bs := ⟨base.n, fun o => w.cell? ⟨p, o, none⟩⟩
section
variable {w w' : World} {base : Bs} {p c : Nat} {F G : Nat → Prop} {own : Nat → Option Int}
theorem NilC.low (h : NilC w base p c) (hc : ∀ o, 68 ≤ o → w'.cell? ⟨p, o, none⟩ = w.cell? ⟨p, o, none⟩) (hf : ∀ o, w'.frozen? ⟨p, o, none⟩ = false) : NilC w' (base.at_ w' p) p c :=
  ⟨h.bp, h.c6, (hc 68 (by omega)).trans h.c0, (hc 69 (by omega)).trans h.c1, (hc 70 (by omega)).trans h.c2, hf, fun _ _ => rfl⟩
theorem Cm.low {b : Nat} {lk : Value} {N free : Nat} {P X : Nat → Nat} {H : Int → Nat} {D : DataW Unit} (h : Cm w base p b lk N free P X H D c) (K : Ke G w w') (hG : ∀ j, FootC p b lk j → G j → j = p) (hc : ∀ o, 68 ≤ o → w'.cell? ⟨p, o, none⟩ = w.cell? ⟨p, o, none⟩) (hf : ∀ o, w'.frozen? ⟨p, o, none⟩ = false) : Cm w' (base.at_ w' p) p b lk N free P X H D c := by
  have hb : ∀ k, FootC p b lk k → k ≠ p → w'.heap[k]? = w.heap[k]? := fun k hk hne => K.block k (h.lt hk).2 (fun q => hne (hG k hk q))
  exact { h with
    bp := h.bp, bb := h.bb
    c0 := (hc 68 (by omega)).trans h.c0, c1 := (hc 69 (by omega)).trans h.c1, c2 := (hc 70 (by omega)).trans h.c2
    fz := hf
    lo := fun _ _ => rfl
    row := h.row.keep (fun g hg => hb g (.inr (.inr hg)) (fun e => h.lp (by rw [hg, e])))
    own := ownsMap_keep h.own (hb b (.inr (.inl rfl)) (Ne.symm h.pb)) }
theorem Chn.low (h : Chn w base p c F own) (K : Ke G w w') (hG : ∀ j, F j → G j → j = p) (hc : ∀ o, 68 ≤ o → w'.cell? ⟨p, o, none⟩ = w.cell? ⟨p, o, none⟩) (hf : ∀ o, w'.frozen? ⟨p, o, none⟩ = false) : Chn w' (base.at_ w' p) p c F own := by
  rcases h with ⟨h, e, rfl⟩ | h
  · exact .inl ⟨h.low hc hf, e, rfl⟩
  · obtain ⟨b, lk, N, free, P, X, H, D, rk, R, FL, cm, ci, rfl⟩ := h.ex
    exact .inr ⟨⟨b, lk, N, free, P, X, H, D, rk, R, FL, cm.low K hG hc hf, ci, rfl⟩, h.wf⟩
theorem Chn.lo (h : Chn w base p c F own) {o : Nat} (ho : o < 68) : w.cell? ⟨p, o, none⟩ = base.lo o := by
  rcases h with ⟨h, e, rfl⟩ | h
  · exact h.lo o ho
  · obtain ⟨b, lk, N, free, P, X, H, D, rk, R, FL, cm, ci, rfl⟩ := h.ex
    exact cm.lo o ho
end
section
variable {w w' : World} {base : Bs} {p c : Nat} {F G : Nat → Prop} {n : Nat} {M : Nat → Option Rk} {L : List Ky}
theorem Cal.low (h : Cal w base p c F n M) (K : Ke G w w') (hG : ∀ j, F j → G j → j = p) (hc : ∀ o, 68 ≤ o → w'.cell? ⟨p, o, none⟩ = w.cell? ⟨p, o, none⟩) (hf : ∀ o, w'.frozen? ⟨p, o, none⟩ = false) : Cal w' (base.at_ w' p) p c F n M := by
  rcases h with ⟨h, e1, e2⟩ | ⟨Fc, F0, F1, g, cap, p0, p1, o, h, t, rfl⟩
  · exact .inl ⟨⟨h.ch.low K hG hc hf, (hc 71 (by omega)).trans h.c3, (hc 72 (by omega)).trans h.c4⟩, e1, e2⟩
  · have sf := h.ch.self
    refine .inr ⟨Fc, F0, F1, g, cap, p0, p1, o, ?_, t, rfl⟩
    exact { h with
      ch := h.ch.low K (fun j q => hG j (.inl q)) hc hf
      c3 := (hc 71 (by omega)).trans h.c3
      c4 := (hc 72 (by omega)).trans h.c4
      bg := h.bg
      cg := (World.cell?_of_block (a := ⟨g, 0, none⟩) (K.block g h.gl (fun q => h.dg (by rw [hG g (.inr (.inr (.inr rfl))) q]; exact sf)))).trans h.cg
      s0 := h.s0.ke K (fun j q r => h.d0 p sf (by rw [← hG j (.inr (.inl q)) r]; exact q))
      s1 := h.s1.ke K (fun j q r => h.d1 p sf (by rw [← hG j (.inr (.inr (.inl q))) r]; exact q)) }
theorem Cal.lo (h : Cal w base p c F n M) {o : Nat} (ho : o < 68) : w.cell? ⟨p, o, none⟩ = base.lo o := by
  rcases h with ⟨h, rfl, rfl⟩ | ⟨Fc, F0, F1, g, cap, p0, p1, o, h, t, rfl⟩
  · exact h.ch.lo ho
  · exact h.ch.lo ho
theorem Cal.fz (h : Cal w base p c F n M) (o : Nat) : w.frozen? ⟨p, o, none⟩ = false := by
  rcases h with ⟨h, rfl, rfl⟩ | ⟨Fc, F0, F1, g, cap, p0, p1, o, h, t, rfl⟩
  · exact h.ch.fz o
  · exact h.ch.fz _
theorem Cl.low (h : Cl w base p c F L) (K : Ke G w w') (hG : ∀ j, F j → G j → j = p) (hc : ∀ o, 68 ≤ o → w'.cell? ⟨p, o, none⟩ = w.cell? ⟨p, o, none⟩) (hf : ∀ o, w'.frozen? ⟨p, o, none⟩ = false) : Cl w' (base.at_ w' p) p c F L := by
  obtain ⟨M, cal, r⟩ := h.ex
  exact ⟨⟨M, cal.low K hG hc hf, r⟩, Nat.le_trans h.bs K.size⟩
theorem Cl.lo (h : Cl w base p c F L) {o : Nat} (ho : o < 68) : w.cell? ⟨p, o, none⟩ = base.lo o := by
  obtain ⟨M, cal, r⟩ := h.ex
  exact cal.lo ho
theorem Cl.fz (h : Cl w base p c F L) (o : Nat) : w.frozen? ⟨p, o, none⟩ = false := by
  obtain ⟨M, cal, r⟩ := h.ex
  exact cal.fz o
theorem Cl.anew (h : Cl w base p c F L) : Cl w (base.at_ w p) p c F L := h.low (Ke.refl (fun _ => False) w) (fun _ _ q => q.elim) (fun _ _ => rfl) h.fz
end
end Go.Proofs.YtlpjojegdnconaaDoor.Ca

namespace Go.Proofs.YtlpjojegdnconaaDoor
open Go.RowKit Go.Lib Go.Maps
open Ca (Ke Gr Sv Row Cl Ky Bs blk_other)
set_option linter.unusedVariables false

theorem Rep.low {w w' : World} {p g bm n : Nat} {A : Nat → Option Int} {D : DataW Unit} (h : Rep w p g bm n A D) (hs : w.heap.size ≤ w'.heap.size) (hc : ∀ o, o < 67 → w'.cell? ⟨p, o, none⟩ = w.cell? ⟨p, o, none⟩) (hf : ∀ o, w'.frozen? ⟨p, o, none⟩ = false) (eg : w'.heap[g]? = w.heap[g]?) (em : w'.heap[bm]? = w.heap[bm]?) : Rep w' p g bm n A D :=
  { h with
    pl := Nat.lt_of_lt_of_le h.pl hs, gl := Nat.lt_of_lt_of_le h.gl hs, ml := Nat.lt_of_lt_of_le h.ml hs
    ids := (hc 0 (by omega)).trans h.ids, mp := (hc 1 (by omega)).trans h.mp
    room := by
      obtain ⟨F, S, hb, r⟩ := h.room
      exact ⟨F, S, hb, ⟨fun k hk => (hc (2 + k) (by omega)).trans (r.c k hk), (hc 66 (by omega)).trans r.s, hf⟩⟩
    cell := fun s hs => by obtain ⟨v, h1, h2⟩ := h.cell s hs; exact ⟨v, (World.cell?_of_block eg).trans h1, h2⟩
    gz := fun o => (World.frozen?_of_block eg).trans (h.gz o)
    own := by obtain ⟨es, cl, h1, h2⟩ := h.own; exact ⟨es, cl, em.trans h1, h2⟩ }
theorem Rep.fz {w : World} {p g bm n : Nat} {A : Nat → Option Int} {D : DataW Unit} (h : Rep w p g bm n A D) (o : Nat) : w.frozen? ⟨p, o, none⟩ = false := by
  obtain ⟨F, S, hb, r⟩ := h.room
  exact r.z o

/-! ### the cells of tasks -/
/-- The k-th cell of a task. -/
def fld (x : Tk) (k : Nat) : Value := match k with
  | 0 => .int .i64 x.id
  | 1 => .int .i64 x.e
  | 2 => .int .i64 x.p
  | 3 => .bool x.sp
  | 4 => .bool x.le
  | 5 => .bool x.wa
  | 6 => .bool x.ac
  | 7 => .int .i64 x.r
  | 8 => .int .i64 x.g
  | 9 => .bool x.dn
  | _ => .int .i64 x.ct
def tc (T : Nat → Tk) (j : Nat) : Value := fld (T (j / 11)) (j % 11)
theorem tc_set (T : Nat → Tk) (i k : Nat) (hk : k < 11) (x : Tk) (u : Value) (h : ∀ o, o < 11 → fld x o = if o = k then u else fld (T i) o) : tc (upd T i x) = Ca.upd (tc T) (i * 11 + k) u := by
  funext j
  unfold tc Ca.upd
  by_cases q : j / 11 = i
  · rw [q, upd_same, h (j % 11) (Nat.mod_lt _ (by omega))]
    by_cases e : j % 11 = k
    · rw [if_pos e, if_pos (by omega)]
    · rw [if_neg e, if_neg (by omega)]
      show fld (T i) (j % 11) = fld (T (j / 11)) (j % 11)
      rw [q]
  · rw [upd_other _ _ q, if_neg (by omega)]
theorem tc_at (T : Nat → Tk) (i o : Nat) (ho : o < 11) : tc T (i * 11 + o) = fld (T i) o := by unfold tc; rw [show (i * 11 + o) / 11 = i by omega, show (i * 11 + o) % 11 = o by omega]

/-! ### the block of jobs -/
/-- Its blocks. -/
def FJ (g bm : Nat) (v : Value) (Fc : Nat → Prop) (k : Nat) : Prop := k = g ∨ k = bm ∨ v.ownBlock = some k ∨ Fc k
/-- Jobs at block p: the table (ids at g, map at bm), the row v of m tasks T, the calendar with the entries L. -/
structure Jx (w : World) (base p n c g bm : Nat) (v : Value) (m : Nat) (A : Nat → Option Int) (T : Nat → Tk) (D : DataW Unit) (Fc : Nat → Prop) (L : List Ky) : Prop where
  bg : base ≤ g
  bb : base ≤ bm
  rep : Rep w p g bm n A D
  c67 : w.cell? ⟨p, 67, none⟩ = some v
  row : Row w base 49 11 v m (tc T)
  cl : Cl w ⟨base, fun o => w.cell? ⟨p, o, none⟩⟩ p c Fc L
  mn : m ≤ n
  tk : ∀ s, A s ≠ none → s < m
  vp : v.ownBlock ≠ some p
  vg : v.ownBlock ≠ some g
  vm : v.ownBlock ≠ some bm
  fv : ∀ k, v.ownBlock = some k → ¬ Fc k
  fg : ¬ Fc g
  fm : ¬ Fc bm
section
variable {w w' : World} {base p n c c' g bm : Nat} {v : Value} {m : Nat} {A A' : Nat → Option Int} {T T' : Nat → Tk} {D D' : DataW Unit} {Fc Fc' : Nat → Prop} {L L' : List Ky}
theorem Jx.self (h : Jx w base p n c g bm v m A T D Fc L) : Fc p := h.cl.self
theorem Jx.pl (h : Jx w base p n c g bm v m A T D Fc L) : p < w.heap.size := h.rep.pl
theorem Jx.lt (h : Jx w base p n c g bm v m A T D Fc L) {k : Nat} (hk : FJ g bm v Fc k) : base ≤ k ∧ k < w.heap.size := by
  rcases hk with rfl | rfl | hk | hk
  · exact ⟨h.bg, h.rep.gl⟩
  · exact ⟨h.bb, h.rep.ml⟩
  · exact h.row.lt hk
  · exact h.cl.lt hk
theorem Jx.fz (h : Jx w base p n c g bm v m A T D Fc L) (o : Nat) : w.frozen? ⟨p, o, none⟩ = false := h.rep.fz o
/-- Other blocks turned. -/
theorem Jx.ke {G : Nat → Prop} (h : Jx w base p n c g bm v m A T D Fc L) (K : Ke G w w') (hG : ∀ j, FJ g bm v Fc j → ¬ G j) : Jx w' base p n c g bm v m A T D Fc L := by
  have ep := K.block p h.pl (hG p (.inr (.inr (.inr h.self))))
  exact { h with
    rep := h.rep.keep K.size ep (K.block g h.rep.gl (hG g (.inl rfl))) (K.block bm h.rep.ml (hG bm (.inr (.inl rfl))))
    c67 := (World.cell?_of_block (a := ⟨p, 67, none⟩) ep).trans h.c67
    row := h.row.keep (fun k hk => K.block k (h.row.lt hk).2 (hG k (.inr (.inr (.inl hk)))))
    cl := h.cl.low K (fun j q r => absurd r (hG j (.inr (.inr (.inr q))))) (fun o _ => World.cell?_of_block (a := ⟨p, o, none⟩) ep) (fun o => (World.frozen?_of_block (a := ⟨p, o, none⟩) ep).trans (h.fz o)) }
theorem Jx.gr (h : Jx w base p n c g bm v m A T D Fc L) (K : Gr w w') : Jx w' base p n c g bm v m A T D Fc L := h.ke K (fun _ _ q => q)
/-- The table turned. -/
theorem kept3_ke (k : Kept3 p g bm w w') : Ke (fun j => j = p ∨ j = g ∨ j = bm) w w' := ⟨k.os, k.tape, k.output, k.size, fun j hj hn => k.block j hj (fun e => hn (.inl e)) (fun e => hn (.inr (.inl e))) (fun e => hn (.inr (.inr e)))⟩
theorem Jx.table (h : Jx w base p n c g bm v m A T D Fc L) (k : Kept3 p g bm w w') (r : Rep w' p g bm n A' D') (ht : ∀ s, A' s ≠ none → s < m) : Jx w' base p n c g bm v m A' T D' Fc L := by
  have K := kept3_ke k
  exact { h with
    rep := r
    c67 := (k.hi 67 (by omega)).trans h.c67
    row := h.row.keep (fun j hj => K.block j (h.row.lt hj).2 (fun q => by
      rcases q with rfl | rfl | rfl
      · exact h.vp hj
      · exact h.vg hj
      · exact h.vm hj))
    tk := ht
    cl := h.cl.low K (fun j q r => by
      rcases r with r | rfl | rfl
      · exact r
      · exact absurd q h.fg
      · exact absurd q h.fm) (fun o ho => k.hi o (by omega)) r.fz }
theorem Jx.table_ke (h : Jx w base p n c g bm v m A T D Fc L) (k : Kept3 p g bm w w') : Ke (FJ g bm v Fc) w w' := (kept3_ke k).mono (fun j _ q => by
  rcases q with rfl | rfl | rfl
  · exact .inr (.inr (.inr h.self))
  · exact .inl rfl
  · exact .inr (.inl rfl))
/-- The calendar turned. -/
theorem Jx.cal (h : Jx w base p n c g bm v m A T D Fc L) (k : Cl w' ⟨base, fun o => w.cell? ⟨p, o, none⟩⟩ p c' Fc' L') (sv : Sv Fc Fc' w w') : Jx w' base p n c' g bm v m A T D Fc' L' := by
  have hlt : ∀ {j}, j < w.heap.size → Fc' j → Fc j := fun {j} hj q => (sv.ft j q).elim id (fun z => by omega)
  exact { h with
    rep := h.rep.low sv.ke.size (fun o ho => k.lo (by omega)) k.fz (sv.ke.block g h.rep.gl h.fg) (sv.ke.block bm h.rep.ml h.fm)
    c67 := (k.lo (o := 67) (by omega)).trans h.c67
    row := h.row.keep (fun j hj => sv.ke.block j (h.row.lt hj).2 (h.fv j hj))
    cl := k.anew
    fv := fun j hj q => h.fv j hj (hlt (h.row.lt hj).2 q)
    fg := fun q => h.fg (hlt h.rep.gl q)
    fm := fun q => h.fm (hlt h.rep.ml q) }
theorem Jx.cal_sv (h : Jx w base p n c g bm v m A T D Fc L) (sv : Sv Fc Fc' w w') : Sv (FJ g bm v Fc) (FJ g bm v Fc') w w' :=
  ⟨sv.ke.mono (fun _ _ q => .inr (.inr (.inr q))), fun j q => by
    rcases q with q | q | q | q
    · exact .inl (.inl q)
    · exact .inl (.inr (.inl q))
    · exact .inl (.inr (.inr (.inl q)))
    · exact (sv.ft j q).imp (fun z => .inr (.inr (.inr z))) id⟩
/-- The tasks turned. -/
theorem Jx.turn (h : Jx w base p n c g bm v m A T D Fc L) (K : Ke (fun j => v.ownBlock = some j) w w') (r : Row w' base 49 11 v m (tc T')) : Jx w' base p n c g bm v m A T' D Fc L := by
  have ep := K.block p h.pl h.vp
  exact { h with
    rep := h.rep.keep K.size ep (K.block g h.rep.gl h.vg) (K.block bm h.rep.ml h.vm)
    c67 := (World.cell?_of_block (a := ⟨p, 67, none⟩) ep).trans h.c67
    row := r
    cl := h.cl.low K (fun j q r => absurd q (h.fv j r)) (fun o _ => World.cell?_of_block (a := ⟨p, o, none⟩) ep) (fun o => (World.frozen?_of_block (a := ⟨p, o, none⟩) ep).trans (h.fz o)) }
theorem Jx.turn_ke (K : Ke (fun j => v.ownBlock = some j) w w') : Ke (FJ g bm v Fc) w w' := K.mono (fun j _ q => .inr (.inr (.inl q)))
theorem Jx.set {q cap : Nat} (h : Jx w base p n c g bm (.slice (some ⟨q, 0, none⟩) m cap) m A T D Fc L) (i k : Nat) (hk : k < 11) (x : Tk) (u : Value) (hx : ∀ o, o < 11 → fld x o = if o = k then u else fld (T i) o) :
    Jx (w.setCell ⟨q, i * 11 + k, none⟩ u) base p n c g bm (.slice (some ⟨q, 0, none⟩) m cap) m A (upd T i x) D Fc L ∧ Ke (fun j => (Value.slice (some ⟨q, 0, none⟩) m cap).ownBlock = some j) w (w.setCell ⟨q, i * 11 + k, none⟩ u) := by
  have K : Ke (fun j => (Value.slice (some ⟨q, 0, none⟩) m cap).ownBlock = some j) w (w.setCell ⟨q, i * 11 + k, none⟩ u) := Ke.set (F := fun j => (Value.slice (some ⟨q, 0, none⟩) m cap).ownBlock = some j) (Ke.refl _ w) (p := ⟨q, i * 11 + k, none⟩) (.inl rfl) u
  refine ⟨h.turn K ?_, K⟩
  rw [tc_set T i k hk x u hx]
  exact h.row.set _ _
theorem Jx.congrT (h : Jx w base p n c g bm v m A T D Fc L) (e : ∀ s, s < m → T' s = T s) : Jx w base p n c g bm v m A T' D Fc L :=
  { h with row := h.row.congr (fun j hj => by unfold tc; rw [e (j / 11) (by omega)]) }
theorem Jx.more (h : Jx w base p n c g bm v m A T D Fc L) (hA : A' = A) : Jx w base p n c g bm v m A' T D Fc L := by rw [hA]; exact h
/-- A task's cells. -/
theorem Jx.cell {q cap : Nat} (h : Jx w base p n c g bm (.slice (some ⟨q, 0, none⟩) m cap) m A T D Fc L) {s : Nat} (hs : s < m) {o : Nat} (ho : o < 11) : w.cell? ⟨q, s * 11 + o, none⟩ = some (fld (T s) o) := by
  rw [← tc_at T s o ho]
  exact h.row.cell (s * 11 + o) (by omega)
theorem Jx.frozen {q cap : Nat} (h : Jx w base p n c g bm (.slice (some ⟨q, 0, none⟩) m cap) m A T D Fc L) (j : Nat) : w.frozen? ⟨q, j, none⟩ = false := h.row.frozen j
end
end Go.Proofs.YtlpjojegdnconaaDoor
