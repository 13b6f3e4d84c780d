/- Seats: the contract of place. -/
import Derived.Test.YtnmdidglfegdcaaDoorC1
namespace Go.Proofs.YtnmdidglfegdcaaDoor
open Go.RowKit Go.Lib Go.Maps
set_option linter.unusedVariables false
set_option maxRecDepth 100000
set_option maxHeartbeats 4000000

/-! ### plain -/
abbrev Hd := Int → Option (Nat × Nat)
def coreOf (H : Hd) (x : Int) : Option Nat := (H x).map Prod.fst
def nowOf (H : Hd) (t : Nat) (x : Int) : Bool := match H x with
  | some q => decide (q.2 = t)
  | none => false
/-- The map while cores are dealt out. -/
def mix (H : Hd) (t : Nat) (s : Sg) (x : Int) : Option (Nat × Nat) := match s.G x with
  | some c => some (c, t + 1)
  | none => H x
theorem mix_some {H : Hd} {t : Nat} {s : Sg} {x : Int} {c : Nat} (h : s.G x = some c) : mix H t s x = some (c, t + 1) := by unfold mix; rw [h]
theorem mix_none {H : Hd} {t : Nat} {s : Sg} {x : Int} (h : s.G x = none) : mix H t s x = H x := by unfold mix; rw [h]
theorem mix_on (H : Hd) (t : Nat) (s : Sg) (x : Int) (c : Nat) : up (mix H t s) x (some (c, t + 1)) = mix H t (s.on x c) := by
  funext y
  by_cases e : y = x
  · subst e; rw [up_same, mix_some on_same]
  · rw [up_other _ _ e]
    unfold mix
    rw [on_other e]
theorem mix_start (H : Hd) (t k : Nat) : mix H t (start k) = H := rfl
/-- The bits of the cores that are free. -/
structure Bt (f : Nat) (s : Sg) : Prop where
  lt : f < 18446744073709551616
  bit : ∀ j, j < 64 → f.testBit j = !s.T j
theorem Bt.on {f : Nat} {s : Sg} (h : Bt f s) (x : Int) (c : Nat) : Bt (less f c) (s.on x c) := by
  refine ⟨less_lt h.lt, fun j hj => ?_⟩
  rw [less_bit hj, h.bit j hj]
  by_cases e : c = j
  · subst e; rw [on_T]; simp
  · rw [on_To (Ne.symm e)]; simp [e]
theorem Bt.start (k : Nat) (hk : k ≤ 64) : Bt (2 ^ k - 1) (start k) := by
  refine ⟨?_, fun j hj => ?_⟩
  · have := Nat.pow_le_pow_right (n := 2) (by omega) hk
    omega
  · rw [Nat.testBit_two_pow_sub_one]
    show decide (j < k) = !decide (k ≤ j)
    by_cases e : j < k
    · have : ¬ k ≤ j := by omega
      simp [e, this]
    · have : k ≤ j := by omega
      simp [e, this]
theorem Bt.low {f : Nat} {s : Sg} (h : Bt f s) {c : Nat} (hc : c < 64) (hT : s.T c = false) : f ≠ 0 ∧ Lib.ctz 64 f = low s.T := by
  have h0 : f ≠ 0 := ne_zero_of_testBit (j := c) (by rw [h.bit c hc, hT]; rfl)
  obtain ⟨a, b, d⟩ := ctz_spec h0 h.lt
  refine ⟨h0, (low_eq ?_ a fun j hj => ?_).symm⟩
  · have := h.bit _ a; rw [b] at this; simpa using this.symm
  · have := h.bit j (by omega); rw [d j hj] at this; simpa using this.symm
/-- Turns are numbers from 1 on. -/
structure Ht (H : Hd) (k t : Nat) : Prop where
  lt : ∀ x q, H x = some q → q.1 < k ∧ q.2 ≤ t
  inj : ∀ x y c, H x = some (c, t) → H y = some (c, t) → x = y
theorem Ht.ok {H : Hd} {k t : Nat} (h : Ht H k t) : Ok k (coreOf H) (nowOf H t) := by
  have one : ∀ x c, nowOf H t x = true → coreOf H x = some c → H x = some (c, t) := fun x c hN hA => by
    unfold nowOf at hN
    unfold coreOf at hA
    cases e : H x with
    | none => rw [e] at hA; cases hA
    | some q =>
      rw [e] at hN hA
      simp only [decide_eq_true_eq] at hN
      simp only [Option.map_some, Option.some.injEq] at hA
      rw [← hN, ← hA]
  refine ⟨fun x c hx => ?_, fun x hx => ?_, fun x y c hx hy ax ay => h.inj x y c (one x c hx ax) (one y c hy ay)⟩
  · unfold coreOf at hx
    cases e : H x with
    | none => rw [e] at hx; cases hx
    | some q => rw [e] at hx; cases hx; exact (h.lt x q e).1
  · unfold nowOf at hx
    unfold coreOf
    cases e : H x with
    | none => rw [e] at hx; cases hx
    | some q => simp
/-- What the three rounds ask. -/
theorem ask1 {H : Hd} {k t : Nat} (h : Ht H k t) {l : List Int} {s : Sg} (p : P1 k l (coreOf H) (nowOf H t) s) (x : Int) :
    ((mix H t s x).isSome && decide (st1 (mix H t s x) = t)) = (el1 (coreOf H) (nowOf H t) s x).isSome ∧ ∀ c, el1 (coreOf H) (nowOf H t) s x = some c → st0 (mix H t s x) = c := by
  unfold el1
  cases e : s.G x with
  | some c =>
    rw [mix_some e, if_neg (by simp)]
    refine ⟨?_, fun c h => (by cases h)⟩
    show (true && decide (t + 1 = t)) = false
    simp
  | none =>
    rw [mix_none e]
    unfold nowOf coreOf
    cases q : H x with
    | none => simp
    | some z =>
      by_cases hz : z.2 = t
      · simp [hz, st1, st0]
      · simp [hz, st1]
theorem ask2 {H : Hd} {k t f : Nat} {l : List Int} {s : Sg} (h : Ht H k t) (hk : k ≤ 64) (p : Iv k l s) (b : Bt f s) (x : Int) :
    ((mix H t s x).isSome && f.testBit (st0 (mix H t s x))) = (el2 (coreOf H) s x).isSome ∧ (∀ c, el2 (coreOf H) s x = some c → st0 (mix H t s x) = c) ∧ (mix H t s x ≠ none → st0 (mix H t s x) < 64) := by
  unfold el2
  cases e : s.G x with
  | some c =>
    obtain ⟨_, m2, m3⟩ := p.mem x c e
    rw [mix_some e, if_neg (by simp)]
    refine ⟨?_, fun c h => (by cases h), fun _ => by show c < 64; omega⟩
    show (true && f.testBit c) = false
    rw [b.bit c (by omega), m3]; rfl
  | none =>
    rw [mix_none e]
    unfold coreOf
    cases q : H x with
    | none => simp
    | some z =>
      have hz := (h.lt x z q).1
      have := b.bit z.1 (by omega)
      refine ⟨?_, ?_, fun _ => by show z.1 < 64; omega⟩
      · show (true && f.testBit z.1) = _
        rw [this]
        cases d : s.T z.1 <;> simp [d]
      · intro c hc
        cases d : s.T z.1 <;> simp [d] at hc
        exact hc
theorem ask3 {H : Hd} {k t : Nat} {s : Sg} (h : Ht H k t) (x : Int) : decide (st1 (mix H t s x) ≤ t) = (el3 s x).isSome := by
  unfold el3
  cases e : s.G x with
  | some c =>
    rw [mix_some e, if_neg (by simp)]
    show decide (t + 1 ≤ t) = false
    simp
  | none =>
    rw [mix_none e, if_pos rfl]
    cases q : H x with
    | none => simp [st1]
    | some z => have := (h.lt x z q).2; simp [st1, this]

/-! ### walked -/
/-- On the way: what is dealt out so far, i puts. -/
structure Md (w W : World) (p bm k t n B : Nat) (H : Hd) (s : Sg) (i : Nat) : Prop where
  cs : Cs W p bm k (t + 1)
  fr : ∃ f, Fr W B f ∧ Bt f s
  own : OwnS W bm (n + i) (mix H t s)
  ke : Ke (fun j => j = p ∨ j = bm) w W
theorem Md.gr {w W W' : World} {p bm k t n B : Nat} {H : Hd} {s : Sg} {i : Nat} (h : Md w W p bm k t n B H s i) (g : Gr W W') : Md w W' p bm k t n B H s i := by
  obtain ⟨f, a, b⟩ := h.fr
  exact ⟨h.cs.keep (g.block _ h.cs.lt (fun q => q)), ⟨f, a.keep (g.block _ (lt_of_cell a.c) (fun q => q)), b⟩, h.own.keep (g.block _ h.own.lt (fun q => q)), h.ke.trans g.of_gr⟩
theorem Md.more {w W : World} {p bm k t n B : Nat} {H : Hd} {s : Sg} {i j : Nat} (h : Md w W p bm k t n B H s i) (hij : i ≤ j) : Md w W p bm k t n B H s j := by
  obtain ⟨D, a, b, c⟩ := h.own
  exact ⟨h.cs, h.fr, ⟨D, a, b, by omega⟩, h.ke⟩
/-- take, on the way. -/
theorem take_md {w W : World} {p bm k t n B : Nat} {H : Hd} {s : Sg} {i : Nat} (h : Md w W p bm k t n B H s i) (n1 : p ≠ bm) (hB : w.heap.size ≤ B) (hp : p < w.heap.size) (hbm : bm < w.heap.size) (x : Int) (hx : (Lit.int .i64 x).wf = true) (c : Nat) (hcc : c < 64) (hn : n + i ≤ 1000000) :
    Calls Tryd.prog 24 #[.pointer (some ⟨p, 0, none⟩), .int .i64 x, .int .i64 c, .pointer (some ⟨B, 0, none⟩)] W fun e w' => e = .returned (.tuple #[]) ∧ Md w w' p bm k t n B H (s.on x c) (i + 1) := by
  obtain ⟨f, a, b⟩ := h.fr
  refine (take_any h.cs a h.own n1 (by omega) (by omega) b.lt x hx c hcc hn).mono ?_
  rintro e w' ⟨rfl, c1, f1, o1, k1⟩
  refine ⟨rfl, c1, ⟨_, f1, b.on x c⟩, ?_, ?_⟩
  · rw [mix_on] at o1
    exact o1
  · exact ⟨k1.os.trans h.ke.os, k1.tape.trans h.ke.tape, k1.output.trans h.ke.output, Nat.le_trans h.ke.size k1.size, fun j hj hne => (k1.block j (Nat.lt_of_lt_of_le hj h.ke.size) (fun q => by rcases q with q | q; exact hne (.inr q); omega)).trans (h.ke.block j hj hne)⟩
theorem place_any {w : World} {p bm k t n base : Nat} {H : Hd} {v : Value} {l : List Int} (hc : Cs w p bm k t) (ho : OwnS w bm n H) (n1 : p ≠ bm) (hk : k ≤ 64) (hk1 : 1 ≤ k) (ht : t ≤ 1000000) (h : Ht H k t) (row : RowI w base v l) (nv : ∀ j, v.ownBlock = some j → j ≠ p ∧ j ≠ bm) (hl : l.length ≤ k) (hn : n + 192 ≤ 1000000) (hwf : ∀ x ∈ l, (Lit.int .i64 x).wf = true) (hT : Tab w) (NT : tabB ≠ p ∧ tabB ≠ bm) :
    Calls Tryd.prog 21 #[.pointer (some ⟨p, 0, none⟩), v] w fun e w' => e = .returned (.tuple #[]) ∧ Cs w' p bm k (t + 1) ∧ OwnS w' bm (n + 192) (mix H t (sit k (coreOf H) (nowOf H t) l)) ∧ Ke (fun j => j = p ∨ j = bm) w w' := by
  have c0 := hc.c0
  have c1 := hc.c1
  have z1 := hc.fz 1
  have hp := hc.lt
  have hbm := ho.lt
  obtain ⟨xa, ca, rfl⟩ := rowI_form row
  have mixed : Tryd.prog.follows .mixedOrders = true := by kernel_rfl
  obtain ⟨f, hf⟩ : ∃ f, f = 2 ^ k - 1 := ⟨_, rfl⟩
  have hf' := Lib.hid hf
  clear hf
  obtain ⟨P, hP⟩ : ∃ P : Int, (2 : Int) ^ k = P := ⟨_, rfl⟩
  have hk0 : ¬ (k : Int) < 0 := by omega
  have e1 : IntKind.u64.wrap (IntKind.u64.wrap P - 1) = (f : Int) := by
    have h1 : P = ((2 ^ k : Nat) : Int) := by rw [← hP]; simp
    have h2 : (2 : Nat) ^ k ≤ 18446744073709551616 := Nat.pow_le_pow_right (n := 2) (by omega) hk
    have h3 : 1 ≤ (2 : Nat) ^ k := Nat.one_le_two_pow
    rw [IntKind.wrap_u64, IntKind.wrap_u64, h1, hf'.out]
    generalize 2 ^ k = y at h2 h3
    omega
  have kt : IntKind.i64.wrap ((t : Int) + 1) = ((t + 1 : Nat) : Int) := by rw [IntKind.wrap_i64]; omega
  have G0 : Gr w (w.alloc (.cells #[.int .u64 0] 63)) := (Ke.refl _ w).alloc _
  have d0 := gcell G0 c0
  have d1 := gcell G0 c1
  have CS := Lib.hid hc
  have OW := Lib.hid ho
  have HT := Lib.hid h
  have HTb := Lib.hid hT
  have ROW := Lib.hid row
  have NV := Lib.hid nv
  have WF := Lib.hid hwf
  clear G0 hc ho h hT row nv hwf
  go_enter Tryd.func21, Tryd.ntmps21
  go_wp2_with fail
  go_region
  clear d0 d1 e1 hP
  go_upto_region 1 with fail
  obtain ⟨B, hB⟩ : ∃ B, B = w.heap.size := ⟨_, rfl⟩
  obtain ⟨W1, hW1⟩ : ∃ W1, W1 = (w.alloc (.cells #[.int .u64 f] 63)).drew := ⟨_, rfl⟩
  have g1 : Gr w W1 := by rw [hW1]; exact ((Ke.refl _ w).alloc _).drew
  have fr1 : Fr W1 B f := by rw [hW1, hB]; exact ⟨by simp [go_sem], by simp [go_sem]⟩
  have y1 := gcell g1 c1
  have yz : W1.frozen? ⟨p, 1, none⟩ = false := (g1.frozen hp (fun q => q)).trans z1
  have G1 := Lib.hid g1
  have F1 := Lib.hid fr1
  rw [← hW1, ← hB]
  clear hW1 g1 fr1 c1 z1 c0
  go_upto_region 2 with fail
  obtain ⟨W2, hW2⟩ : ∃ W2, W2 = W1.setCell ⟨p, 1, none⟩ (.int .i64 ((t : Int) + 1)) := ⟨_, rfl⟩
  have M2 : Hid (Md w W2 p bm k t n B H (start k) 0) := by
    have hpB : p ≠ B := by omega
    have hmB : bm ≠ B := by omega
    have K2 : Ke (fun j => j = p ∨ j = bm) w W2 := by rw [hW2]; exact ((G1.out.of_gr : Ke (fun j => j = p ∨ j = bm) w W1).set (p := ⟨p, 1, none⟩) (.inl (.inl rfl)) _)
    have e0 := CS.out.keep (G1.out.block p hp (fun q => q))
    refine ⟨⟨?_, ?_, ?_, ?_⟩, ⟨f, ⟨?_, ?_⟩, ?_⟩, ?_, K2⟩
    · rw [hW2, World.cell?_setCell_other _ _ _ _ (fun q => by cases q)]; exact e0.c0
    · rw [hW2]; exact World.cell?_setCell_same _ _ _ e0.c1
    · rw [hW2, World.cell?_setCell_other _ _ _ _ (fun q => by cases q)]; exact e0.c2
    · intro o; rw [hW2]; simpa using e0.fz o
    · rw [hW2, World.cell?_setCell_other _ _ _ _ (fun q => by cases q)]; exact F1.out.c
    · rw [hW2]; simpa using F1.out.z
    · rw [hf'.out]; exact Bt.start k hk
    · rw [mix_start]
      refine OwnS.keep (OW.out.keep (G1.out.block bm hbm (fun q => q))) ?_
      rw [hW2]; exact blk_other W1 p 1 _ bm (Ne.symm n1)
  have hBw : w.heap.size ≤ B := by omega
  rw [← hW2]
  clear hW2 y1 yz F1 G1 CS OW hf' hB
  obtain ⟨N0, hN⟩ : ∃ N0, N0 = l.length := ⟨_, rfl⟩
  have hlk : l.length ≤ k := hl
  rw [← hN] at hl ⊢
  have CL := Lib.hid (fun (W : World) (K : Ke (fun j => j = p ∨ j = bm) w W) => rowI_keep ROW.out K (fun j hj q => by rcases q with q | q; exact (NV.out j hj).1 q; exact (NV.out j hj).2 q))
  obtain ⟨S0, hS0⟩ : ∃ S0, S0 = start k := ⟨_, rfl⟩
  rw [← hS0] at M2
  have HS0 := Lib.hid hS0
  clear hS0
  go_wp2_with fail
  go_loopg [35] N0 (fun kx s35 wr => ∃ i : Nat, s35 = .int .i64 i ∧ i ≤ N0 ∧ N0 - i ≤ kx ∧ Aside (Md w wr p bm k t n B H (pass (el1 (coreOf H) (nowOf H t)) (l.take i) S0) (i + 64 * 0)))
  case atStart => exact ⟨0, rfl, by omega, by omega, M2.out⟩
  case round =>
    obtain ⟨i, rfl, hi, hix, HI⟩ := hrel
    by_cases hlt : i < N0
    · have hM := HI.out
      have hltz : (i : Int) < (N0 : Int) := by omega
      have row := CL.out wr hM.ke
      have hil : i < l.length := by omega
      obtain ⟨g, cap, e, -⟩ := Row.form row (by omega)
      have hN2 := Lib.hid hN
      clear hN
      cases e
      have cx := rowI_cell row rfl i hil
      obtain ⟨x, hx⟩ : ∃ x, x = l.getD i 0 := ⟨_, rfl⟩
      rw [← hx] at cx
      have hxm : x ∈ l := by rw [hx, List.getD_eq_getElem?_getD, List.getElem?_eq_getElem hil]; simp
      have hwx := WF.out x hxm
      have hst : pass (el1 (coreOf H) (nowOf H t)) (l.take (i + 1)) S0 = step (el1 (coreOf H) (nowOf H t)) (pass (el1 (coreOf H) (nowOf H t)) (l.take i) S0) x := by rw [hx]; exact pass_take hil
      have hP1 : P1 k l (coreOf H) (nowOf H t) (pass (el1 (coreOf H) (nowOf H t)) (l.take i) S0) := pass_inv (P := P1 k l (coreOf H) (nowOf H t)) (P1.step HT.out.ok) (fun y hy => List.mem_of_mem_take hy) ⟨by rw [HS0.out]; exact Iv.begin k l, fun x c h => (by rw [HS0.out] at h; cases h)⟩
      have HST := Lib.hid hst
      have HP1 := Lib.hid hP1
      have HXM := Lib.hid hxm
      clear hst hP1 row hx hxm
      generalize pass (el1 (coreOf H) (nowOf H t)) (l.take i) S0 = s at *
      obtain ⟨D, own, map, hsz⟩ := hM.own
      have OWN := Lib.hid own
      have hh := map.has x
      have ha := map.at_ x
      have c2 := hM.cs.c2
      have hB3 : B < wr.heap.size := by obtain ⟨f, a, _⟩ := hM.fr; exact lt_of_cell a.c
      have hw3 := hM.ke.size
      have HM := Lib.hid hM
      have GA : ∀ cs, Gr wr (wr.alloc (.cells cs 54)) := fun cs => (Ke.refl _ _).alloc _
      clear own map hsz hM
      obtain ⟨A1, A2⟩ := ask1 HT.out HP1.out x
      generalize mix H t s x = m at *
      cases m with
      | none =>
        have HH : Hid (Maps.has D (.int .i64 x) = false) := hh
        have HA : Hid (D.atKey (.int .i64 x) (tw 0 0) = tw 0 0) := ha
        clear hh ha
        have AN : Hid (el1 (coreOf H) (nowOf H t) s x = none) := by
          cases h : el1 (coreOf H) (nowOf H t) s x with
          | none => rfl
          | some c => rw [h] at A1; cases A1
        have GW1 := Lib.hid (GA #[.int .i64 0, .int .i64 0])
        clear A1 A2 GA
        go_wp2_with (at_lookup; refine wpList_lookup_own_ok _ rfl _ _ 47 rfl 3 54 law3 Tryd.underlying47 tkElem (zero54 _) (tw 0 0) [] (tkElem_mk 0 0) bm _ D rfl OWN.out _ _ rfl (keyOf_int_mk Tryd.underlying3 hwx) ?_; intro v ps hv; obtain ⟨e', p', rfl, hd⟩ := tkElem_inv hv; obtain ⟨rfl, rfl⟩ : (0 : Int) = e' ∧ (0 : Int) = p' := tw_inj (HA.out.symm.trans hd); clear hv hd; rw [HH.out])
        go_roundg (N0 - (i + 1))
        case measure => omega
        case rel =>
          refine ⟨i + 1, by go_num, by omega, Nat.le_refl _, ?_⟩
          rw [Aside, HST.out, step_none AN.out]
          exact (HM.out.gr GW1.out).more (by omega)
      | some q =>
        have HH : Hid (Maps.has D (.int .i64 x) = true) := hh
        have HA : Hid (D.atKey (.int .i64 x) (tw 0 0) = tw q.1 q.2) := ha
        clear hh ha
        by_cases hq : q.2 = t
        · have dq : ((q.2 : Int) == (t : Int)) = true := by simp; omega
          have AN : Hid (el1 (coreOf H) (nowOf H t) s x = some q.1) := by
            have h1 : (el1 (coreOf H) (nowOf H t) s x).isSome = true := by rw [← A1]; simp [st1, hq]
            obtain ⟨c, hc⟩ := Option.isSome_iff_exists.1 h1
            have := A2 c hc
            rw [Hid, hc, ← this]; rfl
          have hq64 : q.1 < 64 := by
            have := AN.out
            unfold el1 at this
            split at this
            · have := HT.out.ok.lt x q.1 this; omega
            · cases this
          have TK := Lib.hid (take_md (HM.out.gr (GA #[.int .i64 q.1, .int .i64 q.2])) n1 hBw hp hbm x hwx q.1 hq64 (by omega))
          clear A1 A2 hq GA
          go_wp2_with (at_lookup; refine wpList_lookup_own_ok _ rfl _ _ 47 rfl 3 54 law3 Tryd.underlying47 tkElem (zero54 _) (tw 0 0) [] (tkElem_mk 0 0) bm _ D rfl OWN.out _ _ rfl (keyOf_int_mk Tryd.underlying3 hwx) ?_; intro v ps hv; obtain ⟨e', p', rfl, hd⟩ := tkElem_inv hv; obtain ⟨rfl, rfl⟩ : (q.1 : Int) = e' ∧ (q.2 : Int) = p' := tw_inj (HA.out.symm.trans hd); clear hv hd; rw [HH.out])
          refine TK.out.mono ?_
          rintro e w9 ⟨rfl, m9⟩
          have M9 := Lib.hid m9
          clear m9 TK
          go_wp2_with fail
          go_roundg (N0 - (i + 1))
          case measure => omega
          case rel =>
            refine ⟨i + 1, by go_num, by omega, Nat.le_refl _, ?_⟩
            rw [Aside, HST.out, step_some AN.out]
            exact M9.out.more (by omega)
        · have dq : ((q.2 : Int) == (t : Int)) = false := by simp; omega
          have AN : Hid (el1 (coreOf H) (nowOf H t) s x = none) := by
            cases h : el1 (coreOf H) (nowOf H t) s x with
            | none => rfl
            | some c => rw [h] at A1; simp [st1, hq] at A1
          have GW1 := Lib.hid (GA #[.int .i64 q.1, .int .i64 q.2])
          clear A1 A2 hq GA
          go_wp2_with (at_lookup; refine wpList_lookup_own_ok _ rfl _ _ 47 rfl 3 54 law3 Tryd.underlying47 tkElem (zero54 _) (tw 0 0) [] (tkElem_mk 0 0) bm _ D rfl OWN.out _ _ rfl (keyOf_int_mk Tryd.underlying3 hwx) ?_; intro v ps hv; obtain ⟨e', p', rfl, hd⟩ := tkElem_inv hv; obtain ⟨rfl, rfl⟩ : (q.1 : Int) = e' ∧ (q.2 : Int) = p' := tw_inj (HA.out.symm.trans hd); clear hv hd; rw [HH.out])
          go_roundg (N0 - (i + 1))
          case measure => omega
          case rel =>
            refine ⟨i + 1, by go_num, by omega, Nat.le_refl _, ?_⟩
            rw [Aside, HST.out, step_none AN.out]
            exact (HM.out.gr GW1.out).more (by omega)
    · have hltz : ¬ (i : Int) < (N0 : Int) := by omega
      obtain ⟨S1, hS1⟩ : ∃ S1, S1 = pass (el1 (coreOf H) (nowOf H t)) l S0 := ⟨_, rfl⟩
      have M3 : Hid (Md w wr p bm k t n B H S1 (64 * 1)) := by
        have h := HI.out
        rw [show l.take i = l from List.take_of_length_le (by omega), ← hS1] at h
        exact h.more (by omega)
      have HS1 := Lib.hid hS1
      clear HI hS1 hlt hix hi
      go_wp2_with fail
      go_loopg [63] N0 (fun kx s63 wr => ∃ i : Nat, s63 = .int .i64 i ∧ i ≤ N0 ∧ N0 - i ≤ kx ∧ Aside (Md w wr p bm k t n B H (pass (el2 (coreOf H)) (l.take i) S1) (i + 64 * 1)))
      case atStart => exact ⟨0, rfl, by omega, by omega, M3.out.more (by omega)⟩
      case round =>
        obtain ⟨i, rfl, hi, hix, HI⟩ := hrel
        by_cases hlt : i < N0
        · have hM := HI.out
          have hltz : (i : Int) < (N0 : Int) := by omega
          have row := CL.out wr hM.ke
          have hil : i < l.length := by omega
          obtain ⟨g, cap, e, -⟩ := Row.form row (by omega)
          have hN2 := Lib.hid hN
          clear hN
          cases e
          have cx := rowI_cell row rfl i hil
          obtain ⟨x, hx⟩ : ∃ x, x = l.getD i 0 := ⟨_, rfl⟩
          rw [← hx] at cx
          have hxm : x ∈ l := by rw [hx, List.getD_eq_getElem?_getD, List.getElem?_eq_getElem hil]; simp
          have hwx := WF.out x hxm
          have hst : pass (el2 (coreOf H)) (l.take (i + 1)) S1 = step (el2 (coreOf H)) (pass (el2 (coreOf H)) (l.take i) S1) x := by rw [hx]; exact pass_take hil
          have hP1 : Iv k l (pass (el2 (coreOf H)) (l.take i) S1) := pass_inv (P := Iv k l) (fun s x c hx h he => by obtain ⟨a, b, d⟩ := el2_spec he; exact h.on hx a (HT.out.ok.lt x c b) d) (fun y hy => List.mem_of_mem_take hy) (by rw [HS1.out, HS0.out]; exact (r1_p1 HT.out.ok).iv)
          have HST := Lib.hid hst
          have HP1 := Lib.hid hP1
          have HXM := Lib.hid hxm
          clear hst hP1 row hx hxm
          generalize pass (el2 (coreOf H)) (l.take i) S1 = s at *
          obtain ⟨D, own, map, hsz⟩ := hM.own
          have OWN := Lib.hid own
          have hh := map.has x
          have ha := map.at_ x
          have c2 := hM.cs.c2
          have hB3 : B < wr.heap.size := by obtain ⟨f, a, _⟩ := hM.fr; exact lt_of_cell a.c
          have hw3 := hM.ke.size
          have HM := Lib.hid hM
          have GA : ∀ cs, Gr wr (wr.alloc (.cells cs 54)) := fun cs => (Ke.refl _ _).alloc _
          clear own map hsz hM
          obtain ⟨f2, F2, bt⟩ := HM.out.fr
          obtain ⟨A1, A2, A3⟩ := ask2 HT.out hk HP1.out bt x
          have fc := F2.c
          generalize mix H t s x = m at *
          cases m with
          | none =>
            have HH : Hid (Maps.has D (.int .i64 x) = false) := hh
            have HA : Hid (D.atKey (.int .i64 x) (tw 0 0) = tw 0 0) := ha
            clear hh ha
            have AN : Hid (el2 (coreOf H) s x = none) := by
              cases h : el2 (coreOf H) s x with
              | none => rfl
              | some c => rw [h] at A1; cases A1
            have GW1 := Lib.hid (GA #[.int .i64 0, .int .i64 0])
            clear A1 A2 A3 GA
            go_wp2_with (at_lookup; refine wpList_lookup_own_ok _ rfl _ _ 47 rfl 3 54 law3 Tryd.underlying47 tkElem (zero54 _) (tw 0 0) [] (tkElem_mk 0 0) bm _ D rfl OWN.out _ _ rfl (keyOf_int_mk Tryd.underlying3 hwx) ?_; intro v ps hv; obtain ⟨e', p', rfl, hd⟩ := tkElem_inv hv; obtain ⟨rfl, rfl⟩ : (0 : Int) = e' ∧ (0 : Int) = p' := tw_inj (HA.out.symm.trans hd); clear hv hd; rw [HH.out])
            go_roundg (N0 - (i + 1))
            case measure => omega
            case rel =>
              refine ⟨i + 1, by go_num, by omega, Nat.le_refl _, ?_⟩
              rw [Aside, HST.out, step_none AN.out]
              exact (HM.out.gr GW1.out).more (by omega)
          | some q =>
            have HH : Hid (Maps.has D (.int .i64 x) = true) := hh
            have HA : Hid (D.atKey (.int .i64 x) (tw 0 0) = tw q.1 q.2) := ha
            clear hh ha
            have hq64 : q.1 < 64 := A3 (by simp)
            have fc2 := gcell (GA #[.int .i64 q.1, .int .i64 q.2]) fc
            have HSB := Lib.hid (has_any f2 q.1 bt.lt hq64)
            by_cases hq : f2.testBit q.1 = true
            · have AN : Hid (el2 (coreOf H) s x = some q.1) := by
                have h1 : (el2 (coreOf H) s x).isSome = true := by rw [← A1]; simp [st0, hq]
                obtain ⟨c, hc⟩ := Option.isSome_iff_exists.1 h1
                have := A2 c hc
                rw [Hid, hc, ← this]; rfl
              rw [hq] at HSB
              have TK := Lib.hid (take_md (HM.out.gr (GA #[.int .i64 q.1, .int .i64 q.2])) n1 hBw hp hbm x hwx q.1 hq64 (by omega))
              clear A1 A2 A3 hq GA F2 bt fc
              go_wp2_with (first | (at_lookup; refine wpList_lookup_own_ok _ rfl _ _ 47 rfl 3 54 law3 Tryd.underlying47 tkElem (zero54 _) (tw 0 0) [] (tkElem_mk 0 0) bm _ D rfl OWN.out _ _ rfl (keyOf_int_mk Tryd.underlying3 hwx) ?_; intro v ps hv; obtain ⟨e', p', rfl, hd⟩ := tkElem_inv hv; obtain ⟨rfl, rfl⟩ : (q.1 : Int) = e' ∧ (q.2 : Int) = p' := tw_inj (HA.out.symm.trans hd); clear hv hd; rw [HH.out]) | (go_at_call 25; refine (HSB.out _).mono ?_; rintro e w8 ⟨rfl, hw8⟩; obtain rfl := hw8.symm))
              refine TK.out.mono ?_
              rintro e w9 ⟨rfl, m9⟩
              have M9 := Lib.hid m9
              clear m9 TK
              go_wp2_with fail
              go_roundg (N0 - (i + 1))
              case measure => omega
              case rel =>
                refine ⟨i + 1, by go_num, by omega, Nat.le_refl _, ?_⟩
                rw [Aside, HST.out, step_some AN.out]
                exact M9.out.more (by omega)
            · have hq' : f2.testBit q.1 = false := by simpa using hq
              have AN : Hid (el2 (coreOf H) s x = none) := by
                cases h : el2 (coreOf H) s x with
                | none => rfl
                | some c => rw [h] at A1; simp [st0, hq'] at A1
              have GW1 := Lib.hid (GA #[.int .i64 q.1, .int .i64 q.2])
              rw [hq'] at HSB
              clear A1 A2 A3 hq hq' GA F2 bt fc
              go_wp2_with (first | (at_lookup; refine wpList_lookup_own_ok _ rfl _ _ 47 rfl 3 54 law3 Tryd.underlying47 tkElem (zero54 _) (tw 0 0) [] (tkElem_mk 0 0) bm _ D rfl OWN.out _ _ rfl (keyOf_int_mk Tryd.underlying3 hwx) ?_; intro v ps hv; obtain ⟨e', p', rfl, hd⟩ := tkElem_inv hv; obtain ⟨rfl, rfl⟩ : (q.1 : Int) = e' ∧ (q.2 : Int) = p' := tw_inj (HA.out.symm.trans hd); clear hv hd; rw [HH.out]) | (go_at_call 25; refine (HSB.out _).mono ?_; rintro e w8 ⟨rfl, hw8⟩; obtain rfl := hw8.symm))
              go_roundg (N0 - (i + 1))
              case measure => omega
              case rel =>
                refine ⟨i + 1, by go_num, by omega, Nat.le_refl _, ?_⟩
                rw [Aside, HST.out, step_none AN.out]
                exact (HM.out.gr GW1.out).more (by omega)
        · have hltz : ¬ (i : Int) < (N0 : Int) := by omega
          obtain ⟨S2, hS2⟩ : ∃ S2, S2 = pass (el2 (coreOf H)) l S1 := ⟨_, rfl⟩
          have M4 : Hid (Md w wr p bm k t n B H S2 (64 * 2)) := by
            have h := HI.out
            rw [show l.take i = l from List.take_of_length_le (by omega), ← hS2] at h
            exact h.more (by omega)
          have HS2 := Lib.hid hS2
          clear HI hS2 hlt hix hi
          go_wp2_with fail
          go_loopg [91] N0 (fun kx s91 wr => ∃ i : Nat, s91 = .int .i64 i ∧ i ≤ N0 ∧ N0 - i ≤ kx ∧ Aside (Md w wr p bm k t n B H (pass el3 (l.take i) S2) (i + 64 * 2)))
          case atStart => exact ⟨0, rfl, by omega, by omega, M4.out.more (by omega)⟩
          case round =>
            obtain ⟨i, rfl, hi, hix, HI⟩ := hrel
            by_cases hlt : i < N0
            · have hM := HI.out
              have hltz : (i : Int) < (N0 : Int) := by omega
              have row := CL.out wr hM.ke
              have hil : i < l.length := by omega
              obtain ⟨g, cap, e, -⟩ := Row.form row (by omega)
              have hN2 := Lib.hid hN
              clear hN
              cases e
              have cx := rowI_cell row rfl i hil
              obtain ⟨x, hx⟩ : ∃ x, x = l.getD i 0 := ⟨_, rfl⟩
              rw [← hx] at cx
              have hxm : x ∈ l := by rw [hx, List.getD_eq_getElem?_getD, List.getElem?_eq_getElem hil]; simp
              have hwx := WF.out x hxm
              have hst : pass el3 (l.take (i + 1)) S2 = step el3 (pass el3 (l.take i) S2) x := by rw [hx]; exact pass_take hil
              have hP1 : Iv k l (pass el3 (l.take i) S2) := pass_inv (P := Iv k l) (iv3 hk hlk) (fun y hy => List.mem_of_mem_take hy) (by rw [HS2.out, HS1.out, HS0.out]; exact r2_iv HT.out.ok)
              have HST := Lib.hid hst
              have HP1 := Lib.hid hP1
              have HXM := Lib.hid hxm
              clear hst hP1 row hx hxm
              generalize pass el3 (l.take i) S2 = s at *
              obtain ⟨D, own, map, hsz⟩ := hM.own
              have OWN := Lib.hid own
              have hh := map.has x
              have ha := map.at_ x
              have c2 := hM.cs.c2
              have hB3 : B < wr.heap.size := by obtain ⟨f, a, _⟩ := hM.fr; exact lt_of_cell a.c
              have hw3 := hM.ke.size
              have HM := Lib.hid hM
              have GA : ∀ cs, Gr wr (wr.alloc (.cells cs 54)) := fun cs => (Ke.refl _ _).alloc _
              clear own map hsz hM
              obtain ⟨f3, F3, bt⟩ := HM.out.fr
              have A1 := ask3 (s := s) HT.out x
              have LK := HM.out.own.look x hwx
              have fc := F3.c
              generalize mix H t s x = m at *
              obtain ⟨q0, hq0⟩ : ∃ q, q = st0 m := ⟨_, rfl⟩
              obtain ⟨q1, hq1⟩ : ∃ q, q = st1 m := ⟨_, rfl⟩
              rw [← hq0, ← hq1] at LK
              rw [← hq1] at A1
              by_cases hq : q1 ≤ t
              · have dq : decide ((q1 : Int) ≤ (t : Int)) = true := by simp; omega
                have hq' : (el3 s x).isSome = true := by rw [← A1]; simpa using hq
                obtain ⟨c, hc⟩ := Option.isSome_iff_exists.1 hq'
                obtain ⟨z1, z2, z3, z4⟩ := el3_low HP1.out hk hlk HXM.out hc
                obtain ⟨b0, b1⟩ := bt.low (show c < 64 by omega) z4
                have AN := Lib.hid hc
                have LE := Lib.hid (least_any f3 bt.lt b0 wr (fun j hj => by
                  have h0 := HTb.out j hj
                  have : tabB ≠ p ∧ tabB ≠ bm := NT
                  exact ((HM.out.ke.cell (lt_of_cell h0) (fun q => by rcases q with q | q; exact this.1 q; exact this.2 q)).trans h0)))
                rw [b1, ← z2] at LE
                have TK := Lib.hid (take_md HM.out n1 hBw hp hbm x hwx c (by omega) (by omega))
                have FD := fun W => field54 q0 q1 W
                clear A1 hq' GA F3 bt b0 b1 z1 z2 z3 z4 hc hq0 hq1
                go_wp2_with (go_at_call 26; refine LE.out.mono ?_; rintro e w8 ⟨rfl, hw8⟩; obtain rfl := hw8.symm)
                refine TK.out.mono ?_
                rintro e w9 ⟨rfl, m9⟩
                have M9 := Lib.hid m9
                clear m9 TK LE
                go_wp2_with fail
                go_roundg (N0 - (i + 1))
                case measure => omega
                case rel =>
                  refine ⟨i + 1, by go_num, by omega, Nat.le_refl _, ?_⟩
                  rw [Aside, HST.out, step_some AN.out]
                  exact M9.out.more (by omega)
              · have hq' : el3 s x = none := by
                  cases h : el3 s x with
                  | none => rfl
                  | some c => rw [h] at A1; simp [hq] at A1
                have AN := Lib.hid hq'
                have FD := fun W => field54 q0 q1 W
                have GW1 : Hid (Gr wr wr) := Ke.refl _ _
                clear A1 hq' GA F3 bt hq0 hq1
                go_wp2_with fail
                go_roundg (N0 - (i + 1))
                case measure => omega
                case rel =>
                  refine ⟨i + 1, by go_num, by omega, Nat.le_refl _, ?_⟩
                  rw [Aside, HST.out, step_none AN.out]
                  exact (HM.out.gr GW1.out).more (by omega)
            · have hltz : ¬ (i : Int) < (N0 : Int) := by omega
              obtain ⟨S3, hS3⟩ : ∃ S3, S3 = pass el3 l S2 := ⟨_, rfl⟩
              have M5 : Hid (Md w wr p bm k t n B H S3 (64 * 3)) := by
                have h := HI.out
                rw [show l.take i = l from List.take_of_length_le (by omega), ← hS3] at h
                exact h.more (by omega)
              have HS3 := Lib.hid hS3
              clear HI hS3 hlt hix hi
              go_wp2_with fail
              go_end0
              have h5 := M5.out
              have e5 : S3 = sit k (coreOf H) (nowOf H t) l := by rw [HS3.out, HS2.out, HS1.out, HS0.out]; rfl
              rw [e5] at h5
              exact ⟨rfl, h5.cs, h5.own, h5.ke⟩
end Go.Proofs.YtnmdidglfegdcaaDoor
