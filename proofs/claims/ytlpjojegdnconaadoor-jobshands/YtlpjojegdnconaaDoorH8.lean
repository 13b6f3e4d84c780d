/- The calendar: contracts of reach, Put, New. -/
import Derived.Test.YtlpjojegdnconaaDoorG8
import Derived.Deep.RegionLaw
namespace Go.Proofs.YtlpjojegdnconaaDoor.Ca
open Go.RowKit Go.Lib Go.Maps
set_option linter.unusedVariables false
set_option maxRecDepth 100000

/-- A calendar into which nothing was ever put, but for its chains. -/
structure Cal0 (w : World) (base : Bs) (p c : Nat) (Fc : Nat → Prop) (own : Nat → Option Int) : Prop where
  ch : Chn w base p c Fc own
  c3 : w.cell? ⟨p, 71, none⟩ = some (.slice none 0 0)
  c4 : w.cell? ⟨p, 72, none⟩ = some (.pointer none)
theorem Cal0.ke {w w' : World} {base : Bs} {p c : Nat} {Fc G : Nat → Prop} {own : Nat → Option Int} (h : Cal0 w base p c Fc own) (k : Ke G w w') (hG : ∀ j, Fc j → ¬ G j) : Cal0 w' base p c Fc own := by
  have ep := k.block p (h.ch.lt h.ch.self).2 (hG p h.ch.self)
  exact ⟨h.ch.ke k hG, (World.cell?_of_block (a := ⟨p, 71, none⟩) ep).trans h.c3, (World.cell?_of_block (a := ⟨p, 72, none⟩) ep).trans h.c4⟩

theorem info76 : ∃ i, Tryd.prog.info? 76 = some i ∧ i.size = 1 ∧ i.bytes = 8 ∧ i.zero = some (.pointer none) := by
  have h1 : (Tryd.prog.info? 76).map (·.size) = some 1 := by kernel_rfl
  have h2 : (Tryd.prog.info? 76).map (·.bytes) = some 8 := by kernel_rfl
  have h3 : (Tryd.prog.info? 76).map (·.zero) = some (some (.pointer none)) := by kernel_rfl
  cases h : Tryd.prog.info? 76 with
  | none => rw [h] at h1; cases h1
  | some i =>
    rw [h] at h1 h2 h3
    exact ⟨i, rfl, by simpa using h1, by simpa using h2, by simpa using h3⟩

/-- The heaps' slice, made. -/
theorem heaps_more (w : World) (a : Addr) (v : Value) (h1 : v.oneCell' = true) (hc : w.cell? a = some v) :
    ∃ g cap w1, (Builtin.append_ #[75, 75] 75 #[.slice none 0 0, .slice (some a) 1 1]).run Tryd.prog w = .ok (.slice (some ⟨g, 0, none⟩) 1 cap) w1 ∧ w.grownBy w1 none ∧ w1.cell? ⟨g, 0, none⟩ = some v ∧ g = w.heap.size ∧ 1 ≤ cap := by
  obtain ⟨i, hi, q1, q2, q3⟩ := info76
  obtain ⟨v', w1, hr, ho, hg, ha⟩ := append_own_at (P := Tryd.prog) w w.heap.size 75 75 76 i _ 1 8 Tryd.underlying75 hi q3 q1 q2 rfl (by omega) (.slice none 0 0) 0 [] (World.ownsRow_nil _ _ _ _) a 1 1 [v] (by omega) rfl (fun j u hj => by
    rcases j with _ | j
    · cases hj; simpa [Addr.add] using hc
    · simp at hj) (by simpa using h1) (by unfold maxLen; omega) (by omega) (Nat.le_refl _)
  have r : Row w1 w.heap.size 76 1 v' 1 (fun _ => v) := by
    unfold Row
    simpa using ho
  obtain ⟨g, cap, rfl, bg, lg, nc, cm⟩ := r.form (by omega)
  refine ⟨g, cap, w1, hr, hg, r.cell 0 (by omega), ?_, nc⟩
  rcases ha with q | q
  · simp [Value.ownBlock] at q
  · simpa [Value.ownBlock] using q

/-- An append whose run is known, as one step of a region that draws. -/
theorem step_append_run {P : Program} {ops : Array Oper} {o : Oper} {a : Act} {w : World} {K : Act → World → Prop} {Q : Exit → Act → World → Prop} {X : Prop}
    (hg : o.guard = none) (s x : Operand) (t : TypeId) (hop : o.op = Op.call { callee := Callee.builtin Builtin.append, args := #[s, x], argTypes := #[t, t] })
    (vs vx : Value) (hs : a.eval s = vs) (hx : a.eval x = vx) (v' : Value) (w' : World) (hr : ∀ ty, (Builtin.append_ #[t, t] ty #[vs, vx]).run P w = .ok v' w') (hK : K (a.put o.dst v') w') :
    if Region.wanted o (yielded ops a.tmps) = true then Oper.wp P o a w K Q else X := by
  have hw : Region.wanted o (yielded ops a.tmps) = true := by simp [Region.wanted, hg]
  rw [if_pos hw]
  unfold Oper.wp execOp
  simp only [hop, resolve, invoke, builtin, Sem.run_bind, Sem.run_pure, Result.andThen_ok, List.map_toArray, List.map_cons, List.map_nil, hs, hx, hr]
  exact hK

section
variable {w : World} {base : Bs} {p c : Nat} {Fc F0 F1 : Nat → Prop} {g cap p0 p1 : Nat} {own : Nat → Option Int} {n : Nat} {M : Nat → Option Rk} {o : Option Rk}
theorem reach_used (h : Cal3 w base p c Fc F0 F1 g cap p0 p1 own n M o) : Calls Tryd.prog 62 #[.pointer (some ⟨p, 68, none⟩), .int .i64 0] w fun e w' => e = .returned (.tuple #[]) ∧ w' = w := by
  have c3 := h.c3
  have c4 := h.c4
  clear h
  go_enter Tryd.func62, Tryd.ntmps62
  go_wp2_with fail
  go_loopg [13] 0 (fun kx s13 wr => wr = w)
  case atStart => rfl
  case round =>
    subst hrel
    go_wp2
    go_end0
    exact ⟨rfl, rfl⟩
end

/-- A heap by time with nothing in it. -/
abbrev HO : Obj := .cells #[.int .i64 2, .slice none 0 0, .slice none 0 0] 138
theorem st_made (w : World) (base : Bs) (hb : base ≤ w.heap.size) : St (w.alloc HO) base w.heap.size 2 (fun g => g = w.heap.size) 0 (fun _ => none) := by
  refine ⟨.slice none 0 0, .slice none 0 0, fun _ => default, 0, fun _ => 0, mem_new w base hb 2 _ _, ?_, ?_, ?_, ?_⟩
  · exact ⟨fun i hi => by omega, fun i hi => by omega, fun i hi => by omega, fun x hx => by omega⟩
  · intro j h0 hj; omega
  · intro s r; simp
  · funext g; simp [Foot, Value.ownBlock]

/-- What reach leaves. -/
structure RcP (w : World) (base : Bs) (p c : Nat) (Fc : Nat → Prop) (own : Nat → Option Int) (w' : World) : Prop where
  ex : ∃ F0 F1 g cap p0 p1, Cal3 w' base p c Fc F0 F1 g cap p0 p1 own 0 (fun _ => none) none ∧ Sv Fc (FootA Fc F0 F1 g) w w'
/-- .. on its way. -/
structure Re1 (w : World) (base : Bs) (p c : Nat) (Fc : Nat → Prop) (own : Nat → Option Int) (W : World) : Prop where
  ch : Chn W base p c Fc own
  c3 : W.cell? ⟨p, 71, none⟩ = some (.slice none 0 0)
  c4 : W.cell? ⟨p, 72, none⟩ = some (.pointer (some ⟨w.heap.size, 0, none⟩))
  s1 : St W base w.heap.size 2 (fun k => k = w.heap.size) (one none) (at0 none)
  ke : Ke Fc w W
  sz : w.heap.size < W.heap.size
  fl : ∀ j, Fc j → j < w.heap.size
section
variable {w : World} {base : Bs} {p c : Nat} {Fc F0 F1 : Nat → Prop} {g cap p0 p1 : Nat} {own : Nat → Option Int} {n : Nat} {M : Nat → Option Rk} {o : Option Rk}
theorem re1_of (h : Cal0 w base p c Fc own) (hb : base ≤ w.heap.size) : Re1 w base p c Fc own ((w.setCell ⟨p, 72, none⟩ (.pointer (some ⟨w.heap.size, 0, none⟩))).alloc HO) := by
  have hpl := (h.ch.lt h.ch.self).2
  have hs : (w.setCell ⟨p, 72, none⟩ (.pointer (some ⟨w.heap.size, 0, none⟩))).heap.size = w.heap.size := by simp [World.setCell]
  have g1 : Gr (w.setCell ⟨p, 72, none⟩ (.pointer (some ⟨w.heap.size, 0, none⟩))) ((w.setCell ⟨p, 72, none⟩ (.pointer (some ⟨w.heap.size, 0, none⟩))).alloc HO) := (Ke.refl _ _).alloc _
  refine ⟨(h.ch.set (by omega) _).gr g1, gcell g1 ?_, gcell g1 ?_, ?_, ((Ke.refl _ w).set (p := ⟨p, 72, none⟩) (.inl h.ch.self) _).alloc _, by simp [World.setCell], fun j hj => (h.ch.lt hj).2⟩
  · exact (World.cell?_setCell_other w _ _ _ (fun q => by cases q)).trans h.c3
  · exact World.cell?_setCell_same w _ _ h.c4
  · have := st_made (w.setCell ⟨p, 72, none⟩ (.pointer (some ⟨w.heap.size, 0, none⟩))) base (by omega)
    rw [hs] at this
    rw [at0_none]
    exact this

theorem re1_done {W w3 : World} {cap : Nat} (h : Re1 w base p c Fc own W) (hb : base ≤ w.heap.size)
    (hg : ((W.alloc HO).alloc (.cells #[.pointer (some ⟨W.heap.size, 0, none⟩)] 76)).drew.grownBy w3 none) (g : Nat) (eg : g = W.heap.size + 1 + 1) (cg : w3.cell? ⟨g, 0, none⟩ = some (.pointer (some ⟨W.heap.size, 0, none⟩))) :
    RcP w base p c Fc own (w3.setCell ⟨p, 71, none⟩ (.slice (some ⟨g, 0, none⟩) 1 cap)) := by
  have hpl := h.ch.lt h.ch.self
  have hsz := h.sz
  have gX : Gr (W.alloc HO) w3 := (((Ke.refl _ _).alloc _).drew).grown hg (fun k e => by cases e)
  have gW : Gr W w3 := ((Ke.refl _ W).alloc _).trans gX
  have sX := gX.size
  have sX' : W.heap.size + 1 ≤ w3.heap.size := by simpa using sX
  have s0 : St w3 base W.heap.size 2 (fun k => k = W.heap.size) 0 (fun _ => none) := (st_made W base (by omega)).gr gX
  have s1 := h.s1.gr gW
  have ch := h.ch.gr gW
  have k3 : Ke (fun k => k = p) w3 (w3.setCell ⟨p, 71, none⟩ (.slice (some ⟨g, 0, none⟩) 1 cap)) := (Ke.refl (fun k => k = p) w3).set (p := ⟨p, 71, none⟩) (.inl rfl) _
  have c3 := gcell gW h.c3
  have c4 := gcell gW h.c4
  have hF : ∀ j, Fc j → j < W.heap.size := fun j hj => (h.ch.lt hj).2
  have hF2 : ∀ j, Fc j → j ≠ w.heap.size := fun j hj e => by
    have := h.fl j hj
    omega
  refine ⟨⟨fun k => k = W.heap.size, fun k => k = w.heap.size, g, cap, W.heap.size, w.heap.size, ?_, ?_⟩⟩
  · exact {
      ch := ch.set (by omega) _
      c3 := World.cell?_setCell_same w3 _ _ c3
      c4 := (World.cell?_setCell_other w3 _ _ _ (fun q => by cases q)).trans c4
      bg := by omega
      cg := (World.cell?_setCell_other w3 _ _ _ (fun q => by have : p = g := congrArg Addr.block q; omega)).trans cg
      s0 := s0.ke k3 (fun j e q => by omega)
      s1 := s1.ke k3 (fun j e q => by subst q; exact hF2 j h.ch.self e)
      dg := fun q => by have := hF g q; omega
      d0 := fun j q e => by have := hF j q; omega
      d1 := fun j q e => hF2 j q e
      g0 := fun e => by omega
      g1 := fun e => by omega
      d01 := fun j e q => by omega }
  · refine ⟨h.ke.trans (((Ke.of_gr gW).trans ((Ke.refl _ w3).set (p := ⟨p, 71, none⟩) (.inl h.ch.self) _))), fun k hk => ?_⟩
    rcases hk with q | q | q | q
    · exact .inl q
    · exact .inr (by omega)
    · exact .inr (by omega)
    · exact .inr (by omega)

set_option maxHeartbeats 1000000 in
theorem reach_first (h : Cal0 w base p c Fc own) (hb : base ≤ w.heap.size) : Calls Tryd.prog 62 #[.pointer (some ⟨p, 68, none⟩), .int .i64 0] w fun e w' => e = .returned (.tuple #[]) ∧ RcP w base p c Fc own w' := by
  have c3 := h.c3
  have c4 := h.c4
  have z4 := h.ch.fz 72
  have hpl := (h.ch.lt h.ch.self).2
  have N1 := Lib.hid (fun W => new_any W 2)
  have R1 := Lib.hid (re1_of h hb)
  clear h
  go_enter Tryd.func62, Tryd.ntmps62
  go_wp2_with fail
  refine (N1.out _).mono ?_
  rintro e w1 ⟨rfl, hw⟩
  obtain rfl := hw
  go_wp2_with fail
  generalize ((w.setCell ⟨p, 72, none⟩ (.pointer (some ⟨w.heap.size, 0, none⟩))).alloc (.cells #[.int .i64 2, .slice none 0 0, .slice none 0 0] 138)) = W at *
  clear c3 c4 z4
  go_loopg [13] 1 (fun kx s13 wr => (kx = 1 ∧ wr = W) ∨ Aside (RcP w base p c Fc own wr))
  case atStart => exact .inl ⟨rfl, rfl⟩
  case round =>
    rcases hrel with ⟨hk, rfl⟩ | D
    · have c3 := R1.out.c3
      have z3 := R1.out.ch.fz 71
      have hpl2 := (R1.out.ch.lt R1.out.ch.self).2
      go_upto_region 3 with fail
      obtain ⟨g, cap, w3, hr, hg, cg, eg, hc⟩ := heaps_more ((wr.alloc HO).alloc (.cells #[.pointer (some ⟨wr.heap.size, 0, none⟩)] 76)).drew ⟨wr.heap.size + 1, 0, none⟩ (.pointer (some ⟨wr.heap.size, 0, none⟩)) rfl (by simp [go_sem])
      have HR : Hid (∀ ty, (Builtin.append_ #[75, 75] ty #[.slice none 0 0, .slice (some ⟨wr.heap.size + 1, 0, none⟩) 1 1]).run Tryd.prog ((wr.alloc HO).alloc (.cells #[.pointer (some ⟨wr.heap.size, 0, none⟩)] 76)).drew = .ok (.slice (some ⟨g, 0, none⟩) 1 cap) w3) := fun ty => hr
      have DN := Lib.hid (re1_done (cap := cap) R1.out hb hg g (by simpa using eg) cg)
      have gX : Gr wr w3 := ((((Ke.refl _ wr).alloc _).alloc _).drew).grown hg (fun k e => by cases e)
      have c3' := gcell gX c3
      have z3' := (gX.frozen (p := ⟨p, 71, none⟩) hpl2 (fun q => q)).trans z3
      clear hr hg cg eg hc gX
      go_region_law (first | (go_simp; refine (N1.out _).mono ?_; rintro e w5 ⟨rfl, hw⟩; obtain rfl := hw; dsimp only) | refine step_append_run rfl (.tmp 24) (.tmp 26) 75 rfl _ _ rfl rfl _ _ HR.out ?_)
      all_goals
        go_wp2_with fail
        go_roundg 0
        case measure => omega
        case rel => exact .inr DN.out
    · obtain ⟨F0, F1, g, cap, p0, p1, P2, V2⟩ := D.out.ex
      have c3 := P2.c3
      clear P2 V2
      go_wp2
      go_end0
      exact ⟨rfl, D.out⟩
end
end Go.Proofs.YtlpjojegdnconaaDoor.Ca
