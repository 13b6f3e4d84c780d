/- The calendar in memory: its chains, its heap, the heap of the first; contract of refresh. -/
import Derived.Test.YtlpjojegdnconaaDoorF8
namespace Go.Proofs.YtlpjojegdnconaaDoor.Ca
open Go.RowKit Go.Lib Go.Maps
set_option linter.unusedVariables false
set_option maxRecDepth 100000

/-- What the heap of the first holds. -/
def one (o : Option Rk) : Nat := match o with | none => 0 | some _ => 1
def at0 (o : Option Rk) : Nat → Option Rk := upd (fun _ => none) 0 o
theorem at0_none : at0 none = fun _ => none := upd_self (fun _ => (none : Option Rk)) 0
theorem at0_put (o o' : Option Rk) : upd (at0 o) 0 o' = at0 o' := by
  funext s
  unfold at0 upd
  split <;> rfl

/-- A calendar that is used: the chains' blocks Fc, the heap at p0 with F0, the first's heap at p1 with F1; the slice of heaps is block g. -/
structure Cal3 (w : World) (base : Bs) (p c : Nat) (Fc F0 F1 : Nat → Prop) (g cap p0 p1 : Nat) (own : Nat → Option Int) (n : Nat) (M : Nat → Option Rk) (o : Option Rk) : Prop where
  ch : Chn w base p c Fc own
  c3 : w.cell? ⟨p, 71, none⟩ = some (.slice (some ⟨g, 0, none⟩) 1 cap)
  c4 : w.cell? ⟨p, 72, none⟩ = some (.pointer (some ⟨p1, 0, none⟩))
  bg : base ≤ g
  cg : w.cell? ⟨g, 0, none⟩ = some (.pointer (some ⟨p0, 0, none⟩))
  s0 : St w base p0 2 F0 n M
  s1 : St w base p1 2 F1 (one o) (at0 o)
  dg : ¬ Fc g
  d0 : ∀ j, Fc j → ¬ F0 j
  d1 : ∀ j, Fc j → ¬ F1 j
  g0 : ¬ F0 g
  g1 : ¬ F1 g
  d01 : ∀ j, F0 j → ¬ F1 j
/-- All its blocks. -/
def FootA (Fc F0 F1 : Nat → Prop) (g k : Nat) : Prop := Fc k ∨ F0 k ∨ F1 k ∨ k = g

theorem Sv.wide {A A' G G' : Nat → Prop} {w w' : World} (v : Sv A A' w w') (hA : ∀ k, A k → G k) (hG : ∀ k, G' k → G k ∨ A' k) : Sv G G' w w' :=
  ⟨v.ke.mono (fun k _ q => hA k q), fun k q => (hG k q).elim .inl (fun q => (v.ft k q).imp (hA k) id)⟩

section
variable {w w' : World} {base : Bs} {p c c' : Nat} {Fc F0 F1 Fc' F0' F1' : Nat → Prop} {g cap p0 p1 : Nat} {own own' : Nat → Option Int} {n n' : Nat} {M M' : Nat → Option Rk} {o o' : Option Rk}
theorem Cal3.gl (h : Cal3 w base p c Fc F0 F1 g cap p0 p1 own n M o) : g < w.heap.size := lt_of_cell h.cg
theorem Cal3.lt (h : Cal3 w base p c Fc F0 F1 g cap p0 p1 own n M o) {k : Nat} (hk : FootA Fc F0 F1 g k) : base ≤ k ∧ k < w.heap.size := by
  rcases hk with q | q | q | rfl
  · exact h.ch.lt q
  · exact h.s0.lt q
  · exact h.s1.lt q
  · exact ⟨h.bg, h.gl⟩
/-- Other blocks turned. -/
theorem Cal3.ke {G : Nat → Prop} (h : Cal3 w base p c Fc F0 F1 g cap p0 p1 own n M o) (k : Ke G w w') (hG : ∀ j, FootA Fc F0 F1 g j → ¬ G j) : Cal3 w' base p c Fc F0 F1 g cap p0 p1 own n M o := by
  have hp := h.ch.lt h.ch.self
  have ep := k.block p hp.2 (hG p (.inl h.ch.self))
  exact { h with
    ch := h.ch.ke k (fun j q => hG j (.inl q))
    c3 := (World.cell?_of_block (a := ⟨p, 71, none⟩) ep).trans h.c3
    c4 := (World.cell?_of_block (a := ⟨p, 72, none⟩) ep).trans h.c4
    cg := (World.cell?_of_block (a := ⟨g, 0, none⟩) (k.block g h.gl (hG g (.inr (.inr (.inr rfl)))))).trans h.cg
    s0 := h.s0.ke k (fun j q => hG j (.inr (.inl q)))
    s1 := h.s1.ke k (fun j q => hG j (.inr (.inr (.inl q)))) }
theorem Cal3.gr (h : Cal3 w base p c Fc F0 F1 g cap p0 p1 own n M o) (k : Gr w w') : Cal3 w' base p c Fc F0 F1 g cap p0 p1 own n M o := h.ke k (fun _ _ q => q)
/-- The heap turned. -/
theorem Cal3.step0 (h : Cal3 w base p c Fc F0 F1 g cap p0 p1 own n M o) (s : St w' base p0 2 F0' n' M') (v : Sv F0 F0' w w') : Cal3 w' base p c Fc F0' F1 g cap p0 p1 own n' M' o := by
  have hp := h.ch.lt h.ch.self
  have ep := v.ke.block p hp.2 (h.d0 p h.ch.self)
  exact { h with
    ch := h.ch.ke v.ke h.d0
    c3 := (World.cell?_of_block (a := ⟨p, 71, none⟩) ep).trans h.c3
    c4 := (World.cell?_of_block (a := ⟨p, 72, none⟩) ep).trans h.c4
    cg := (World.cell?_of_block (a := ⟨g, 0, none⟩) (v.ke.block g h.gl h.g0)).trans h.cg
    s0 := s
    s1 := h.s1.ke v.ke (fun j q r => h.d01 j r q)
    d0 := fun j q r => by
      rcases v.ft j r with e | e
      · exact h.d0 j q e
      · have := (h.ch.lt q).2; omega
    g0 := fun r => by
      rcases v.ft g r with e | e
      · exact h.g0 e
      · have := h.gl; omega
    d01 := fun j r q => by
      rcases v.ft j r with e | e
      · exact h.d01 j e q
      · have := (h.s1.lt q).2; omega }
/-- The first's heap turned. -/
theorem Cal3.step1 (h : Cal3 w base p c Fc F0 F1 g cap p0 p1 own n M o) (s : St w' base p1 2 F1' (one o') (at0 o')) (v : Sv F1 F1' w w') : Cal3 w' base p c Fc F0 F1' g cap p0 p1 own n M o' := by
  have hp := h.ch.lt h.ch.self
  have ep := v.ke.block p hp.2 (h.d1 p h.ch.self)
  exact { h with
    ch := h.ch.ke v.ke h.d1
    c3 := (World.cell?_of_block (a := ⟨p, 71, none⟩) ep).trans h.c3
    c4 := (World.cell?_of_block (a := ⟨p, 72, none⟩) ep).trans h.c4
    cg := (World.cell?_of_block (a := ⟨g, 0, none⟩) (v.ke.block g h.gl h.g1)).trans h.cg
    s0 := h.s0.ke v.ke h.d01
    s1 := s
    d1 := fun j q r => by
      rcases v.ft j r with e | e
      · exact h.d1 j q e
      · have := (h.ch.lt q).2; omega
    g1 := fun r => by
      rcases v.ft g r with e | e
      · exact h.g1 e
      · have := h.gl; omega
    d01 := fun j r q => by
      rcases v.ft j q with e | e
      · exact h.d01 j r e
      · have := (h.s0.lt r).2; omega }
/-- The chains turned. -/
theorem Cal3.stepC (h : Cal3 w base p c Fc F0 F1 g cap p0 p1 own n M o) (s : Chn w' base p c' Fc' own') (v : Sv Fc Fc' w w') (r : Rest p w w') : Cal3 w' base p c' Fc' F0 F1 g cap p0 p1 own' n M o := by
  exact { h with
    ch := s
    c3 := (r 71 (by omega)).trans h.c3
    c4 := (r 72 (by omega)).trans h.c4
    cg := (World.cell?_of_block (a := ⟨g, 0, none⟩) (v.ke.block g h.gl h.dg)).trans h.cg
    s0 := h.s0.ke v.ke (fun j q r => h.d0 j r q)
    s1 := h.s1.ke v.ke (fun j q r => h.d1 j r q)
    dg := fun r => by
      rcases v.ft g r with e | e
      · exact h.dg e
      · have := h.gl; omega
    d0 := fun j q r => by
      rcases v.ft j q with e | e
      · exact h.d0 j e r
      · have := (h.s0.lt r).2; omega
    d1 := fun j q r => by
      rcases v.ft j q with e | e
      · exact h.d1 j e r
      · have := (h.s1.lt r).2; omega }
theorem sv_0 (v : Sv F0 F0' w w') : Sv (FootA Fc F0 F1 g) (FootA Fc F0' F1 g) w w' := v.wide (fun k q => .inr (.inl q)) (fun k q => by
  rcases q with q | q | q | q
  · exact .inl (.inl q)
  · exact .inr q
  · exact .inl (.inr (.inr (.inl q)))
  · exact .inl (.inr (.inr (.inr q))))
theorem sv_1 (v : Sv F1 F1' w w') : Sv (FootA Fc F0 F1 g) (FootA Fc F0 F1' g) w w' := v.wide (fun k q => .inr (.inr (.inl q))) (fun k q => by
  rcases q with q | q | q | q
  · exact .inl (.inl q)
  · exact .inl (.inr (.inl q))
  · exact .inr q
  · exact .inl (.inr (.inr (.inr q))))
theorem sv_C (v : Sv Fc Fc' w w') : Sv (FootA Fc F0 F1 g) (FootA Fc' F0 F1 g) w w' := v.wide (fun k q => .inl q) (fun k q => by
  rcases q with q | q | q | q
  · exact .inr q
  · exact .inl (.inr (.inl q))
  · exact .inl (.inr (.inr (.inl q)))
  · exact .inl (.inr (.inr (.inr q))))
end

/-- The first of all, if there is one. -/
def IsTop (n : Nat) (M : Nat → Option Rk) (o : Option Rk) : Prop := (n = 0 ∧ o = none) ∨ ∃ s r, First 2 M s r ∧ o = some r

/-- What a call leaves of a calendar whose heaps turned. -/
structure RfP (w : World) (base : Bs) (p c : Nat) (Fc F0 F1 : Nat → Prop) (g cap p0 p1 : Nat) (own : Nat → Option Int) (n : Nat) (M : Nat → Option Rk) (w' : World) : Prop where
  ex : ∃ F1' o', Cal3 w' base p c Fc F0 F1' g cap p0 p1 own n M o' ∧ IsTop n M o' ∧ Sv F1 F1' w w'

section
variable {w : World} {base : Bs} {p c : Nat} {Fc F0 F1 : Nat → Prop} {g cap p0 p1 : Nat} {own : Nat → Option Int} {n : Nat} {M : Nat → Option Rk} {o : Option Rk}
theorem first_put (h : Cal3 w base p c Fc F0 F1 g cap p0 p1 own n M o) (r : Rk) : Calls Tryd.prog 63 #[.pointer (some ⟨p1, 0, none⟩), .int .i64 0, V r] w fun e w' => e = .returned (.int .i64 0) ∧ ∃ F1', Cal3 w' base p c Fc F0 F1' g cap p0 p1 own n M (some r) ∧ Sv F1 F1' w w' := by
  have h1 := h.s1
  cases o with
  | none =>
    refine (st_put_new h1 0 (by omega) r (by rw [at0_none])).mono ?_
    rintro e w' ⟨rfl, F', s', v⟩
    rw [at0_put] at s'
    exact ⟨rfl, F', h.step1 (o' := some r) s' v, v⟩
  | some r0 =>
    refine (st_put_old h1 0 (by omega) r r0 (by unfold at0; rw [upd_same])).mono ?_
    rintro e w' ⟨rfl, s', v⟩
    rw [at0_put] at s'
    exact ⟨rfl, F1, h.step1 (o' := some r) s' ⟨v, fun _ q => .inl q⟩, ⟨v, fun _ q => .inl q⟩⟩
theorem first_drop (h : Cal3 w base p c Fc F0 F1 g cap p0 p1 own n M o) : Calls Tryd.prog 85 #[.pointer (some ⟨p1, 0, none⟩), .int .i64 0] w fun e w' => (∃ b, e = .returned (.bool b)) ∧ ∃ F1', Cal3 w' base p c Fc F0 F1' g cap p0 p1 own n M none ∧ Sv F1 F1' w w' := by
  have h1 := h.s1
  cases o with
  | none =>
    refine (st_drop_none h1 0 (fun s _ => by rw [at0_none])).mono ?_
    rintro e w' ⟨rfl, hw⟩
    rw [hw]
    exact ⟨⟨_, rfl⟩, F1, h, Sv.refl _ _⟩
  | some r0 =>
    refine (st_drop (n := 0) h1 0 r0 (by unfold at0; rw [upd_same])).mono ?_
    rintro e w' ⟨rfl, s', v⟩
    rw [at0_put] at s'
    exact ⟨⟨_, rfl⟩, F1, h.step1 (o' := none) s' ⟨v, fun _ q => .inl q⟩, ⟨v, fun _ q => .inl q⟩⟩

set_option maxHeartbeats 1000000 in
theorem refresh_some (h : Cal3 w base p c Fc F0 F1 g cap p0 p1 own n M o) (s : Nat) (r : Rk) (hf : First 2 M s r) :
    Calls Tryd.prog 64 #[.pointer (some ⟨p, 68, none⟩), .int .i64 0] w fun e w' => e = .returned (.tuple #[]) ∧ RfP w base p c Fc F0 F1 g cap p0 p1 own n M w' := by
  have c3 := h.c3
  have cg := h.cg
  have C := Lib.hid (st_top h.s0 s r hf)
  have FP := Lib.hid (fun W (k : Gr w W) => first_put (h.gr k) r)
  have HF := Lib.hid hf
  have c4 := h.c4
  have hpl := (h.ch.lt h.ch.self).2
  have NB : Hid (∀ j, w.heap.size ≤ j → ¬ F1 j) := fun j hj q => by have := (h.s1.lt q).2; omega
  obtain ⟨rd, rb, rg, ri⟩ := r
  clear h hf
  go_enter Tryd.func64, Tryd.ntmps64
  go_wp2_with fail
  refine C.out.mono ?_
  rintro e w1 ⟨rfl, g1⟩
  have c4' := gcell g1 c4
  have hs1 := g1.size
  have G1 := Lib.hid g1
  clear C c3 cg c4 g1
  have hne : ¬ p = w1.heap.size := by omega
  have hlt : p < w1.heap.size := by omega
  go_upto_region 2 with fail
  obtain ⟨W, hW⟩ : ∃ W, W = (w1.alloc (.cells #[.int .i64 rd, .int .i64 rb, .int .i64 rg, .int .i64 ri] 109)) := ⟨_, rfl⟩
  have kc : W.drew.cell? ⟨p, 72, none⟩ = some (.pointer (some ⟨p1, 0, none⟩)) ∧ W.drew.cell? ⟨w1.heap.size, 0, none⟩ = some (.int .i64 rd) ∧ W.drew.cell? ⟨w1.heap.size, 1, none⟩ = some (.int .i64 rb) ∧ W.drew.cell? ⟨w1.heap.size, 2, none⟩ = some (.int .i64 rg) ∧ W.drew.cell? ⟨w1.heap.size, 3, none⟩ = some (.int .i64 ri) := by
    rw [hW]
    refine ⟨?_, by simp [go_sem], by simp [go_sem], by simp [go_sem], by simp [go_sem]⟩
    exact gcell ((Ke.refl _ _).alloc _) c4'
  have GW : Hid (Gr w W.drew) := by rw [hW]; exact (G1.out.alloc _).drew
  have FQ := Lib.hid (FP.out _ GW.out)
  have KD : Hid (∀ {w2 : World}, Ke F1 W.drew w2 → ∀ o {v : Value}, W.drew.cell? ⟨w1.heap.size, o, none⟩ = some v → w2.cell? ⟨w1.heap.size, o, none⟩ = some v) := fun {w2} k o {v} hv => (k.cell (lt_of_cell hv) (NB.out _ hs1)).trans hv
  rw [← hW]
  clear hW FP
  go_region_held3 (fun w' => w'.cell? ⟨p, 72, none⟩ = some (.pointer (some ⟨p1, 0, none⟩)) ∧ w'.cell? ⟨w1.heap.size, 0, none⟩ = some (.int .i64 rd) ∧ w'.cell? ⟨w1.heap.size, 1, none⟩ = some (.int .i64 rb) ∧ w'.cell? ⟨w1.heap.size, 2, none⟩ = some (.int .i64 rg) ∧ w'.cell? ⟨w1.heap.size, 3, none⟩ = some (.int .i64 ri))
    (with_reducible first | exact kc | exact kd)
    (first | (go_at_call 63; refine FQ.out.mono ?_; rintro e w2 ⟨rfl, F2, P2, v2⟩; have kd := And.intro P2.c4 (And.intro (KD.out v2.ke 0 kc.2.1) (And.intro (KD.out v2.ke 1 kc.2.2.1) (And.intro (KD.out v2.ke 2 kc.2.2.2.1) (KD.out v2.ke 3 kc.2.2.2.2)))); have PP := Lib.hid P2; have VV := Lib.hid v2; clear P2 v2))
  go_wp2_with fail
  refine bodyPost_ret (results_none rfl _ _ _) rfl ?_
  exact ⟨rfl, ⟨F2, _, PP.out, .inr ⟨s, _, HF.out, rfl⟩, (Sv.of_gr GW.out).trans VV.out⟩⟩

set_option maxHeartbeats 1000000 in
theorem refresh_none (h : Cal3 w base p c Fc F0 F1 g cap p0 p1 own 0 M o) :
    Calls Tryd.prog 64 #[.pointer (some ⟨p, 68, none⟩), .int .i64 0] w fun e w' => e = .returned (.tuple #[]) ∧ RfP w base p c Fc F0 F1 g cap p0 p1 own 0 M w' := by
  have c3 := h.c3
  have cg := h.cg
  have C := Lib.hid (st_top_none h.s0)
  have FP := Lib.hid (fun W (k : Gr w W) => first_drop (h.gr k))
  have c4 := h.c4
  have hpl := (h.ch.lt h.ch.self).2
  clear h
  go_enter Tryd.func64, Tryd.ntmps64
  go_wp2_with fail
  refine C.out.mono ?_
  rintro e w1 ⟨rfl, g1⟩
  have c4' := gcell g1 c4
  have hs1 := g1.size
  have G1 := Lib.hid g1
  clear C c3 cg c4 g1
  have hlt : p < w1.heap.size := by omega
  go_wp2_with fail
  refine (FP.out _ (G1.out.alloc _)).mono ?_
  rintro e w2 ⟨⟨b, rfl⟩, F2, P2, v2⟩
  have PP := Lib.hid P2
  have VV := Lib.hid v2
  clear P2 v2 FP
  go_wp2_with fail
  go_end0
  exact ⟨rfl, ⟨F2, _, PP.out, .inl ⟨rfl, rfl⟩, (Sv.of_gr (G1.out.alloc _)).trans VV.out⟩⟩
theorem refresh_any (h : Cal3 w base p c Fc F0 F1 g cap p0 p1 own n M o) :
    Calls Tryd.prog 64 #[.pointer (some ⟨p, 68, none⟩), .int .i64 0] w fun e w' => e = .returned (.tuple #[]) ∧ RfP w base p c Fc F0 F1 g cap p0 p1 own n M w' := by
  rcases Nat.eq_zero_or_pos n with e | e
  · subst e; exact refresh_none h
  · obtain ⟨s, r, hf, _⟩ := st_first h.s0 e
    exact refresh_some h s r hf
end
end Go.Proofs.YtlpjojegdnconaaDoor.Ca
