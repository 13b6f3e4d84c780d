/- Jobs: Settle on its way. -/
import Derived.Test.YtlpjojegdnconaaDoorU2
namespace Go.Proofs.YtlpjojegdnconaaDoor
open Go.RowKit Go.Lib Go.Maps
open Ca (Ke Gr Sv Row Cl Ky Bs blk_other)
set_option linter.unusedVariables false
set_option maxRecDepth 100000
set_option maxHeartbeats 4000000

/-- The first k ids. -/
def pid (Du : List Ky) (k : Nat) : List Int := (Du.take k).map Prod.snd
theorem pid_succ {Du : List Ky} {k : Nat} (h : k < Du.length) : pid Du (k + 1) = pid Du k ++ [(Du[k]).2] := by
  unfold pid
  rw [List.take_succ_eq_append_getElem h, List.map_append]
  rfl
/-- Settle on its way: k ids were settled; those that are gone are u. -/
structure StI (w : World) (base p n c g bm : Nat) (v : Value) (m : Nat) (A : Nat → Option Int) (T : Nat → Tk) (S : List Tk) (F : Nat → Prop) (Du Lt : List Ky) (dv : Value) (k : Nat) (u : Value) (wr : World) : Prop where
  ex : ∃ D Fc, Jx wr base p n c g bm v m (AS A T (pid Du k)) (TS A T (pid Du k)) D Fc Lt ∧ Sv F (FJ g bm v Fc) w wr ∧ (∀ j, u.ownBlock = some j → ¬ FJ g bm v Fc j) ∧ (∀ j, dv.ownBlock = some j → ¬ FJ g bm v Fc j)
  lk : Lk (AS A T (pid Du k)) (TS A T (pid Du k)) (Du.drop k ++ Lt)
  row : RowI wr w.heap.size u ((pid Du k).filter (leS S))
  dr : Row wr w.heap.size 3 1 dv Du.length (Ca.idc Du)
  ud : ∀ j, u.ownBlock = some j → dv.ownBlock ≠ some j
section
variable {w : World} {base p n c g bm : Nat} {v : Value} {m : Nat} {A : Nat → Option Int} {T : Nat → Tk} {D : DataW Unit} {Fc : Nat → Prop} {L : List Ky} {q cap : Nat} {S : List Tk} {F : Nat → Prop} {t : Int} {Du Lt : List Ky} {dv u : Value} {k : Nat} {wr : World}
theorem StI.gr (h : StI w base p n c g bm v m A T S F Du Lt dv k u wr) {w' : World} (G : Gr wr w') : StI w base p n c g bm v m A T S F Du Lt dv k u w' := by
  obtain ⟨D, Fc, hx, sv, n1, n2⟩ := h.ex
  have s2 := sv.trans (Ca.Sv.of_gr G)
  exact ⟨⟨D, Fc, hx.gr G, s2, n1, n2⟩, h.lk, Row.keep h.row (fun j hj => G.block j (Row.lt h.row hj).2 (fun z => z)), Row.keep h.dr (fun j hj => G.block j (Row.lt h.dr hj).2 (fun z => z)), h.ud⟩
/-- The calendar's answer. -/
theorem sti_start (hx : Jx w base p n c g bm v m A T D Fc L) (lk : Lk A T L) {w1 : World} (d : Ca.DuI w ⟨base, fun o => w.cell? ⟨p, o, none⟩⟩ p c Fc L (Ca.due t L) (Ca.late t L) dv w1) (S : List Tk) : StI w base p n c g bm v m A T S (FJ g bm v Fc) (Ca.due t L) (Ca.late t L) dv 0 (.slice none 0 0) w1 := by
  obtain ⟨Fc', cl, sv, nf⟩ := d.ex
  have j1 := hx.cal cl sv
  have s1 := hx.cal_sv sv
  have e0 : pid (Ca.due t L) 0 = [] := rfl
  refine ⟨⟨D, Fc', by rw [e0, AS_nil, TS_nil]; exact j1, s1, fun j hj => by simp [Value.ownBlock] at hj, fun j hj z => ?_⟩, by rw [e0, AS_nil, TS_nil, List.drop_zero, ← d.sp]; exact lk, World.ownsRow_nil _ _ _ _, d.row, fun j hj => by simp [Value.ownBlock] at hj⟩
  have h1 := (Row.lt d.row hj).1
  rcases z with z | z | z | z
  · have := hx.rep.gl; omega
  · have := hx.rep.ml; omega
  · have := (hx.row.lt z).2; omega
  · exact nf j hj z
/-- The next id's task. -/
theorem StI.task (h : StI w base p n c g bm v m A T S F Du Lt dv k u wr) (a : At c A T) (hk : k < Du.length) : ∃ s, A s = some (Du[k]).2 ∧ (Du[k]).2 ∉ pid Du k ∧ AS A T (pid Du k) s = some (Du[k]).2 ∧ TS A T (pid Du k) s = T s := by
  have hm : Du[k] ∈ Du.drop k ++ Lt := List.mem_append_left _ (by rw [List.drop_eq_getElem_cons hk]; exact List.mem_cons_self ..)
  obtain ⟨s, h1, h2, h3⟩ := (h.lk.mem _).1 hm
  obtain ⟨h4, h5⟩ := AS_some h1
  have hn : (Du[k]).2 ∉ pid Du k := fun z => by
    have : (TS A T (pid Du k) s).ac = false := by
      unfold TS
      rw [if_pos ⟨_, h4, z⟩]
      split <;> rfl
    rw [this] at h2; cases h2
  exact ⟨s, h4, hn, (AS_in (T := T) h4 hn).1, (AS_in (T := T) h4 hn).2⟩
/-- Its job ended, it stays. -/
theorem sti_stay (h : StI w base p n c g bm v m A T S F Du Lt dv k u wr) (a : At c A T) (hk : k < Du.length) {s : Nat} (hs : A s = some (Du[k]).2) (hn : (Du[k]).2 ∉ pid Du k) (hS : leS S (Du[k]).2 = false) (hl : (T s).le = false) {w2 : World} (K : Ke (FJ g bm v Fc) wr w2) (nu : ∀ j, u.ownBlock = some j → ¬ FJ g bm v Fc j) (nd : ∀ j, dv.ownBlock = some j → ¬ FJ g bm v Fc j) (sv : Sv F (FJ g bm v Fc) w wr) (j2 : Jx w2 base p n c g bm v m (AS A T (pid Du k)) (upd (TS A T (pid Du k)) s (endT (T s))) D Fc Lt) : StI w base p n c g bm v m A T S F Du Lt dv (k + 1) u w2 := by
  have e1 : AS A T (pid Du (k + 1)) = AS A T (pid Du k) := by rw [pid_succ hk]; exact AS_stay a hs hl
  have e2 : TS A T (pid Du (k + 1)) = upd (TS A T (pid Du k)) s (endT (T s)) := by rw [pid_succ hk, TS_step a hs, if_neg (by rw [hl]; simp)]
  have e3 : (pid Du (k + 1)).filter (leS S) = (pid Du k).filter (leS S) := by rw [pid_succ hk, List.filter_append]; simp [hS]
  have lk := h.lk
  rw [List.drop_eq_getElem_cons hk, List.cons_append] at lk
  have s2 : Sv (FJ g bm v Fc) (FJ g bm v Fc) wr w2 := ⟨K, fun _ z => .inl z⟩
  have s3 := sv.trans s2
  refine ⟨⟨D, Fc, by rw [e1, e2]; exact j2, s3, nu, nd⟩, ?_, by rw [e3]; exact Row.keep h.row (fun j hj => K.block j (Row.lt h.row hj).2 (nu j hj)), Row.keep h.dr (fun j hj => K.block j (Row.lt h.dr hj).2 (nd j hj)), h.ud⟩
  rw [e1, e2]
  exact lk.tail (a.stl _) (AS_in (T := T) hs hn).1 (fun _ _ => rfl) (fun x hx => upd_other _ _ hx) (.inr (by rw [upd_same]; rfl))
/-- It was leaving: it is gone. -/
theorem sti_go (h : StI w base p n c g bm v m A T S F Du Lt dv k u wr) (a : At c A T) (hk : k < Du.length) (hk6 : Du.length ≤ 1000000) {s : Nat} (hs : A s = some (Du[k]).2) (hn : (Du[k]).2 ∉ pid Du k) (hS : leS S (Du[k]).2 = true) (hl : (T s).le = true) {w2 : World} (K : Ke (FJ g bm v Fc) wr w2) (nu : ∀ j, u.ownBlock = some j → ¬ FJ g bm v Fc j) (nd : ∀ j, dv.ownBlock = some j → ¬ FJ g bm v Fc j) (sv : Sv F (FJ g bm v Fc) w wr) (j2 : Jx w2 base p n c g bm v m (upd (AS A T (pid Du k)) s none) (upd (TS A T (pid Du k)) s zeroT) D Fc Lt) :
    ∃ u' w3, (Builtin.append_ #[42, 42] 42 #[u, .slice (some ⟨w2.heap.size, 0, none⟩) 1 1]).run Tryd.prog (w2.alloc (.cells #[.int .i64 (Du[k]).2] 3)) = .ok u' w3 ∧ StI w base p n c g bm v m A T S F Du Lt dv (k + 1) u' w3 := by
  have e1 : AS A T (pid Du (k + 1)) = upd (AS A T (pid Du k)) s none := by rw [pid_succ hk]; exact AS_go a hs hl
  have e2 : TS A T (pid Du (k + 1)) = upd (TS A T (pid Du k)) s zeroT := by rw [pid_succ hk, TS_step a hs, if_pos hl]
  have e3 : (pid Du (k + 1)).filter (leS S) = (pid Du k).filter (leS S) ++ [(Du[k]).2] := by rw [pid_succ hk, List.filter_append]; simp [hS]
  have lk := h.lk
  rw [List.drop_eq_getElem_cons hk, List.cons_append] at lk
  have hs1 := sv.ke.size
  have hs2 := K.size
  have r2 : RowI w2 w.heap.size u ((pid Du k).filter (leS S)) := Row.keep h.row (fun j hj => K.block j (Row.lt h.row hj).2 (nu j hj))
  have d2 : Row w2 w.heap.size 3 1 dv Du.length (Ca.idc Du) := Row.keep h.dr (fun j hj => K.block j (Row.lt h.dr hj).2 (nd j hj))
  have hlen : ((pid Du k).filter (leS S)).length ≤ 1000000 := by
    have h1 := List.length_filter_le (leS S) (pid Du k)
    have h2 : (pid Du k).length ≤ Du.length := by unfold pid; rw [List.length_map, List.length_take]; omega
    omega
  obtain ⟨u', w3, hrun, hg, hrow', hown⟩ := row_more r2 (by omega) hlen (Du[k]).2
  refine ⟨u', w3, hrun, ?_⟩
  have K3 : Ke (fun j => u.ownBlock = some j) w2 w3 := ((Ke.refl _ w2).alloc _).grown hg (fun k e => .inl e)
  have j3 := j2.ke K3 (fun j hj z => nu j z hj)
  refine ⟨⟨D, Fc, by rw [e1, e2]; exact j3, ⟨⟨K3.os.trans (K.os.trans sv.ke.os), K3.tape.trans (K.tape.trans sv.ke.tape), K3.output.trans (K.output.trans sv.ke.output), by have := K3.size; omega, fun j hj hn' => ?_⟩, sv.ft⟩, fun j hj z => ?_, nd⟩, ?_, by rw [e3]; exact hrow', Row.keep d2 (fun j hj => K3.block j (Row.lt d2 hj).2 (fun z => h.ud j z hj)), fun j hj z => ?_⟩
  · refine (K3.block j (by omega) (fun z => ?_)).trans ((K.block j (by omega) (fun z => ?_)).trans (sv.ke.block j hj hn'))
    · have := (Row.lt r2 z).1; omega
    · rcases sv.ft j z with e | e
      · exact hn' e
      · omega
  · rcases hown with e | e
    · rw [e] at hj; exact nu j hj z
    · rw [e] at hj
      have := (j2.lt z).2
      cases hj
      omega
  · rw [e1, e2]
    exact lk.tail (a.stl _) (AS_in (T := T) hs hn).1 (fun x hx => upd_other _ _ hx) (fun x hx => upd_other _ _ hx) (.inl (upd_same _ _ _))
  · rcases hown with e | e
    · rw [e] at hj; exact h.ud j hj z
    · rw [e] at hj
      have := (Row.lt d2 z).2
      cases hj
      omega
/-- end, of the task at s. -/
theorem fld_end (x : Tk) : (∀ o, o < 11 → fld { x with ac := false } o = if o = 6 then .bool false else fld x o) ∧ (∀ o, o < 11 → fld { x with ac := false, dn := false } o = if o = 9 then .bool false else fld { x with ac := false } o) ∧ (∀ o, o < 11 → fld { x with ac := false, dn := false, r := 0 } o = if o = 7 then .int .i64 0 else fld { x with ac := false, dn := false } o) ∧ (∀ o, o < 11 → fld (endT x) o = if o = 8 then .int .i64 0 else fld { x with ac := false, dn := false, r := 0 } o) := by
  refine ⟨fun o ho => ?_, fun o ho => ?_, fun o ho => ?_, fun o ho => ?_⟩ <;> (rcases (show o = 0 ∨ o = 1 ∨ o = 2 ∨ o = 3 ∨ o = 4 ∨ o = 5 ∨ o = 6 ∨ o = 7 ∨ o = 8 ∨ o = 9 ∨ o = 10 by omega) with rfl | rfl | rfl | rfl | rfl | rfl | rfl | rfl | rfl | rfl | rfl <;> rfl)
theorem end_jx {T' : Nat → Tk} {A' : Nat → Option Int} (hx : Jx w base p n c g bm (.slice (some ⟨q, 0, none⟩) m cap) m A' T' D Fc L) {s : Nat} {x : Tk} (hsm : s < m) (hT : T' s = x) :
    Calls Tryd.prog 43 #[.pointer (some ⟨q, s * 11, none⟩)] w fun e w1 => e = .returned (.tuple #[]) ∧ Ke (FJ g bm (.slice (some ⟨q, 0, none⟩) m cap) Fc) w w1 ∧ Jx w1 base p n c g bm (.slice (some ⟨q, 0, none⟩) m cap) m A' (upd T' s (endT x)) D Fc L := by
  subst hT
  have k6 := hx.cell hsm (o := 6) (by omega)
  have k9 := hx.cell hsm (o := 9) (by omega)
  have k7 := hx.cell hsm (o := 7) (by omega)
  have k8 := hx.cell hsm (o := 8) (by omega)
  refine (end_any q (s * 11) _ _ _ _ w k6 k9 k7 k8 hx.frozen).mono ?_
  rintro e w1 ⟨rfl, rfl⟩
  obtain ⟨f1, f2, f3, f4⟩ := fld_end (T' s)
  obtain ⟨j4, K⟩ := hx.set4 s (by omega) (by omega) (by omega) (by omega) f1 f2 f3 f4
  exact ⟨rfl, K, j4⟩
/-- What Settle leaves. -/
def StlQ (w : World) (base p n c : Nat) (F : Nat → Prop) (S : List Tk) (t : Int) (e : Ending) (w' : World) : Prop := ∃ u F', e = .returned (.tuple #[u, .int .i64 (stlN t S : Nat)]) ∧ RowI w' w.heap.size u (stlI t S) ∧ Jb w' base p n c F' (stlT t S) ∧ Sv F F' w w' ∧ ∀ j, u.ownBlock = some j → ¬ F' j
theorem sti_end (h : StI w base p n c g bm v m A T S F (Ca.due t L) (Ca.late t L) dv (Ca.due t L).length u wr) (a : At c A T) (sl : Sl S A T) (lk : Lk A T L) (hL : L.Pairwise Ca.le2) (hlen : (Ca.due t L).length ≤ 1000000) {mi : Nat} (hmi : mi = ((Ca.due t L).map Prod.snd).countP (neS S)) :
    Calls Tryd.prog 40 #[u] wr fun e w' => e = .returned (.tuple #[]) ∧ StlQ w base p n c F S t (.returned (.tuple #[u, .int .i64 (mi : Nat)])) w' := by
  have ep : pid (Ca.due t L) (Ca.due t L).length = (Ca.due t L).map Prod.snd := by unfold pid; rw [List.take_length]
  have d := lk.isDue hL t
  have nd : ((Ca.due t L).map Prod.snd).Nodup := by
    rw [due_filter t hL]
    exact List.Sublist.nodup (List.Sublist.map _ List.filter_sublist) lk.nd
  have hl2 : ((pid (Ca.due t L) (Ca.due t L).length).filter (leS S)).length ≤ 1000000 := by
    have h1 := List.length_filter_le (leS S) (pid (Ca.due t L) (Ca.due t L).length)
    have h2 : (pid (Ca.due t L) (Ca.due t L).length).length ≤ (Ca.due t L).length := by unfold pid; rw [List.length_map, List.length_take]; omega
    omega
  refine (sort_row h.row hl2).mono ?_
  rintro e w' ⟨rfl, r, K⟩
  obtain ⟨D, Fc, hx, sv, nf, _⟩ := h.ex
  rw [ep] at r hx
  rw [sl.stlI a d nd] at r
  have hlk := h.lk
  rw [ep, List.drop_length, List.nil_append] at hlk
  have j2 := hx.ke K (fun j hj z => nf j z hj)
  have b2 := jb_of j2 (a.stl _) (sl.stl a d) hlk
  have em : mi = stlN t S := by rw [hmi]; exact sl.stlN a d nd
  refine ⟨rfl, u, _, by rw [em], r, b2, ⟨⟨K.os.trans sv.ke.os, K.tape.trans sv.ke.tape, K.output.trans sv.ke.output, Nat.le_trans sv.ke.size K.size, fun j hj hn => ?_⟩, sv.ft⟩, nf⟩
  refine (K.block j (by have := sv.ke.size; omega) (fun z => ?_)).trans (sv.ke.block j hj hn)
  have := (Row.lt h.row z).1
  omega
end
end Go.Proofs.YtlpjojegdnconaaDoor
