/- Seats: contracts of New, Last, Forget, Sit. -/
import Derived.Test.YtnmdidglfegdcaaDoorD1
namespace Go.Proofs.YtnmdidglfegdcaaDoor
open Go.RowKit Go.Lib Go.Maps Go.Sort
set_option linter.unusedVariables false
set_option maxRecDepth 100000
set_option maxHeartbeats 4000000

/-- Seats at block p, their map at block bm; t successful calls of Sit so far. -/
structure Se (w : World) (p bm k t : Nat) (H : Hd) : Prop where
  cs : Cs w p bm k t
  own : OwnS w bm (192 * t) H
  ne : p ≠ bm
  k1 : 1 ≤ k
  k64 : k ≤ 64
  ht : Ht H k t
theorem Se.keep {w w' : World} {p bm k t : Nat} {H : Hd} (h : Se w p bm k t H) (e1 : w'.heap[p]? = w.heap[p]?) (e2 : w'.heap[bm]? = w.heap[bm]?) : Se w' p bm k t H :=
  ⟨h.cs.keep e1, h.own.keep e2, h.ne, h.k1, h.k64, h.ht⟩
theorem Se.ke {w w' : World} {p bm k t : Nat} {H : Hd} {F : Nat → Prop} (h : Se w p bm k t H) (g : Ke F w w') (h1 : ¬ F p) (h2 : ¬ F bm) : Se w' p bm k t H := h.keep (g.block _ h.cs.lt h1) (g.block _ h.own.lt h2)
theorem Se.gr {w w' : World} {p bm k t : Nat} {H : Hd} (h : Se w p bm k t H) (g : Gr w w') : Se w' p bm k t H := h.ke g (fun q => q) (fun q => q)

/-! ### plain -/
theorem core_mix (H : Hd) (t : Nat) (s : Sg) : coreOf (mix H t s) = nxA s (coreOf H) := by
  funext x
  unfold coreOf nxA mix
  cases s.G x <;> rfl
theorem now_mix {H : Hd} {k t : Nat} (h : Ht H k t) (s : Sg) : nowOf (mix H t s) (t + 1) = nxN s := by
  funext x
  unfold nowOf nxN
  cases e : s.G x with
  | some c => rw [mix_some e]; simp
  | none =>
    rw [mix_none e]
    cases q : H x with
    | none => rfl
    | some z => have := (h.lt x z q).2; simp; omega
theorem Ht.next {H : Hd} {k t : Nat} {l : List Int} {s : Sg} (h : Ht H k t) (p : Iv k l s) : Ht (mix H t s) k (t + 1) := by
  have one : ∀ x c, mix H t s x = some (c, t + 1) → s.G x = some c := fun x c hx => by
    cases e : s.G x with
    | some d => rw [mix_some e] at hx; cases hx; rfl
    | none => rw [mix_none e] at hx; have := (h.lt x _ hx).2; simp only at this; omega
  refine ⟨fun x q hx => ?_, fun x y c hx hy => p.inj x y c (one x c hx) (one y c hy)⟩
  cases e : s.G x with
  | some d => rw [mix_some e] at hx; cases hx; exact ⟨(p.mem x d e).2.1, Nat.le_refl _⟩
  | none => rw [mix_none e] at hx; have := h.lt x q hx; omega
theorem core_up (H : Hd) (x : Int) : coreOf (up H x none) = up (coreOf H) x none := by
  funext y
  unfold coreOf up
  by_cases e : y = x <;> simp [e]
theorem now_up (H : Hd) (t : Nat) (x : Int) : nowOf (up H x none) t = up (nowOf H t) x false := by
  funext y
  unfold nowOf up
  by_cases e : y = x <;> simp [e]
theorem Ht.forget {H : Hd} {k t : Nat} (h : Ht H k t) (x : Int) : Ht (up H x none) k t := by
  have one : ∀ y q, up H x none y = some q → H y = some q := fun y q hy => by
    by_cases e : y = x
    · subst e; rw [up_same] at hy; cases hy
    · rwa [up_other _ _ e] at hy
  exact ⟨fun y q hy => h.lt y q (one y q hy), fun y z c hy hz => h.inj y z c (one _ _ hy) (one _ _ hz)⟩
theorem Ht.begin (k : Nat) : Ht (fun _ => none) k 0 := ⟨fun x q h => (by cases h), fun x y c h => (by cases h)⟩
/-- What Sit answers. -/
def sitE (k : Nat) (l : List Int) : Int := if k < l.length then 6 else if l.Nodup then 0 else 2
def sitL (k : Nat) (A : Int → Option Nat) (N : Int → Bool) (l : List Int) : List Int := l.map fun x => ((((sit k A N (rise l)).G x).getD 0 : Nat) : Int)
theorem sitL_length (k : Nat) (A : Int → Option Nat) (N : Int → Bool) (l : List Int) : (sitL k A N l).length = l.length := by simp [sitL]
theorem rise_wf {l : List Int} (h : ∀ x ∈ l, (Lit.int .i64 x).wf = true) : ∀ x ∈ rise l, (Lit.int .i64 x).wf = true := fun x hx => h x ((rise_mem l x).1 hx)

theorem gr_ke {w w1 w2 : World} {F : Nat → Prop} (g : Gr w w1) (k : Ke F w1 w2) (hF : ∀ j, F j → w.heap.size ≤ j) : Gr w w2 :=
  ⟨k.os.trans g.os, k.tape.trans g.tape, k.output.trans g.output, Nat.le_trans g.size k.size, fun j hj hn => (k.block j (Nat.lt_of_lt_of_le hj g.size) (fun q => by have := hF j q; omega)).trans (g.block j hj hn)⟩
/-- A slice whose cells lie elsewhere. -/
def Off (v : Value) (p bm : Nat) : Prop := ∀ b off n c, v = .slice (some ⟨b, off, none⟩) n c → 0 < n → b ≠ p ∧ b ≠ bm
theorem off_in {w : World} {v : Value} {l : List Int} {p bm : Nat} (h : IdIn w v l) (h1 : w.heap.size ≤ p) (h2 : w.heap.size ≤ bm) : Off v p bm := fun b off n c e hn => by
  obtain ⟨a, c', rfl, h⟩ := h
  cases e
  rcases h with rfl | ⟨b', off', q, h⟩
  · simp at hn
  · cases q
    have := lt_of_cell (h 0 hn)
    simp only at this
    omega
/-! ### New, Last, Forget -/
theorem new_any (n : Int) (w : World) (k : Nat) (hk : min (max n 1) 64 = (k : Int)) : Calls Tryd.prog 9 #[.int .i64 n] w fun e w' => ∃ p bm, e = .returned (.pointer (some ⟨p, 0, none⟩)) ∧ Se w' p bm k 0 (fun _ => none) ∧ Gr w w' ∧ w.heap.size ≤ p ∧ w.heap.size ≤ bm := by
  have MM : ∀ W, (Instr.makeMap 47 none).run Tryd.prog W = .ok (.map (some W.heap.size)) (W.alloc (.map #[] 0)) := fun W => rfl
  have hb := Lib.hid hk
  have kb : 1 ≤ k ∧ k ≤ 64 := by omega
  go_enter Tryd.func9, Tryd.ntmps9
  go_wp2_with fail
  go_ret
  have K : Gr w ((w.alloc (.map #[] 0)).alloc (.cells #[.int .i64 k, .int .i64 0, .map (some w.heap.size)] 49)) := ((Ke.refl _ w).alloc _).alloc _
  have om := (World.ownsMap_made (H := Unit) w Tryd.prog 3 tkElem).alloc (.cells #[.int .i64 k, .int .i64 0, .map (some w.heap.size)] 49)
  refine ⟨w.heap.size + 1, w.heap.size, rfl, ⟨⟨?_, ?_, ?_, ?_⟩, ⟨_, own_tight om, MapS.start, ?_⟩, by omega, kb.1, kb.2, Ht.begin k⟩, K, by omega, by omega⟩
  · simp [go_sem]
  · simp [go_sem]
  · simp [go_sem]
  · intro o; simp [go_sem]
  · show Maps.size (.map [] : DataW Unit) ≤ 192 * 0
    exact Nat.le_refl _
theorem last_some {w : World} {p bm k t : Nat} {H : Hd} (h : Se w p bm k t H) (x : Int) (hx : (Lit.int .i64 x).wf = true) :
    Calls Tryd.prog 14 #[.pointer (some ⟨p, 0, none⟩), .int .i64 x] w fun e w' => e = .returned (.tuple #[.int .i64 (st0 (H x) : Nat), .bool (H x).isSome]) ∧ Gr w w' := by
  have c2 := h.cs.c2
  obtain ⟨D, own, map, _⟩ := h.own
  have OWN := Lib.hid own
  have HH := Lib.hid (map.has x)
  have HA := Lib.hid (map.at_ x)
  generalize H x = m at *
  obtain ⟨q0, hq0⟩ : ∃ q, q = st0 m := ⟨_, rfl⟩
  obtain ⟨q1, hq1⟩ : ∃ q, q = st1 m := ⟨_, rfl⟩
  rw [← hq0, ← hq1] at HA
  rw [← hq0]
  clear own map h hq0 hq1
  go_enter Tryd.func14, Tryd.ntmps14
  go_wp2_with (at_lookup; refine wpList_lookup_own_ok _ rfl _ _ 47 rfl 3 54 law3 Tryd.underlying47 tkElem (zero54 _) (tw 0 0) [] (tkElem_mk 0 0) bm _ D rfl OWN.out _ _ rfl (keyOf_int_mk Tryd.underlying3 hx) ?_; intro v ps hv; obtain ⟨e', p', rfl, hd⟩ := tkElem_inv hv; obtain ⟨rfl, rfl⟩ : (q0 : Int) = e' ∧ (q1 : Int) = p' := tw_inj (HA.out.symm.trans hd); clear hv hd; rw [HH.out])
  go_ret2
  exact ⟨rfl, (Ke.refl _ _).alloc _⟩
theorem forget_any {w : World} {p bm k t : Nat} {H : Hd} (h : Se w p bm k t H) (x : Int) (hx : (Lit.int .i64 x).wf = true) :
    Calls Tryd.prog 10 #[.pointer (some ⟨p, 0, none⟩), .int .i64 x] w fun e w' => e = .returned (.tuple #[]) ∧ Se w' p bm k t (up H x none) ∧ Ke (fun j => j = bm) w w' := by
  have c2 := h.cs.c2
  obtain ⟨D, own, map, hs⟩ := h.own
  have OWN := Lib.hid own
  have SE := Lib.hid h
  have MP := Lib.hid map
  clear own map h
  go_enter Tryd.func10, Tryd.ntmps10
  go_wp2_with (at_delete; refine wpList_delete_own _ rfl _ _ 47 3 rfl 54 law3 Tryd.underlying47 tkElem bm _ D rfl OWN.out _ _ rfl (keyOf_int_mk Tryd.underlying3 hx) ?_; intro w3 own3 turn3)
  go_end0
  have r := SE.out
  refine ⟨rfl, ⟨r.cs.keep (turned_block turn3 r.cs.lt r.ne), ⟨_, own_tight own3, MP.out.del x, ?_⟩, r.ne, r.k1, r.k64, r.ht.forget x⟩, turned_ke turn3 rfl⟩
  have q := size_del (k := Lit.int .i64 x) (OWN.out.tidy law3)
  split at q <;> omega
theorem sit_full {w : World} {p bm k t : Nat} {H : Hd} {v : Value} {l : List Int} (h : Se w p bm k t H) (hv : IdIn w v l) (hl : k < l.length) (hl2 : l.length ≤ 9223372036854775807) :
    Calls Tryd.prog 12 #[.pointer (some ⟨p, 0, none⟩), v] w fun e w' => e = .returned (.tuple #[.slice none 0 0, .int .i64 6]) ∧ Gr w w' := by
  have c0 := h.cs.c0
  obtain ⟨a, c, rfl, _⟩ := hv
  have hlz : (l.length : Int) > (k : Int) := by omega
  have d0 : decide ((l.length : Int) > (k : Int)) = true := by simpa using hlz
  go_enter Tryd.func12, Tryd.ntmps12
  go_wp2_with fail
  go_ret2
  exact ⟨rfl, Ke.refl _ _⟩
theorem sit_twice {w : World} {p bm k t : Nat} {H : Hd} {v : Value} {l : List Int} (h : Se w p bm k t H) (hv : IdIn w v l) (hl : l.length ≤ k) (hd : ¬ l.Nodup) :
    Calls Tryd.prog 12 #[.pointer (some ⟨p, 0, none⟩), v] w fun e w' => e = .returned (.tuple #[.slice none 0 0, .int .i64 2]) ∧ Gr w w' := by
  have c0 := h.cs.c0
  have hk := h.k64
  have CL := Lib.hid (clone_any hv (by omega))
  obtain ⟨a, c, rfl, _⟩ := hv
  have d0 : decide ((l.length : Int) > (k : Int)) = false := by simp; omega
  have hlz : ¬ (k : Int) < (l.length : Int) := by omega
  have hlt := compact_twice hd
  rw [rise_length] at hlt
  clear hd h
  go_enter Tryd.func12, Tryd.ntmps12
  go_wp2_with fail
  refine CL.out.mono ?_
  rintro e w1 ⟨u, rfl, row1, g1⟩
  have SR := Lib.hid (sort_row row1 (by omega))
  have R1 := Lib.hid row1
  have G1 := Lib.hid g1
  clear CL row1 g1
  go_wp2_with fail
  refine SR.out.mono ?_
  rintro e w2 ⟨rfl, row2, k2⟩
  have CR := Lib.hid (compact_row row2 (by rw [rise_length]; omega))
  have R2 := Lib.hid row2
  have K2 := Lib.hid k2
  clear SR row2 k2
  go_wp2_with fail
  refine CR.out.mono ?_
  rintro e w3 ⟨a3, c3, rfl, row3, k3⟩
  have R3 := Lib.hid row3
  have K3 := Lib.hid k3
  clear CR row3 k3
  generalize (Lib.compact (rise l)).length = n at *
  have hnz : (n : Int) < (l.length : Int) := by omega
  have d1 : decide ((n : Int) < (l.length : Int)) = true := by simpa using hnz
  go_wp2_with fail
  go_ret2
  exact ⟨rfl, gr_ke (gr_ke G1.out K2.out (fun j hj => (Row.lt R1.out hj).1)) K3.out (fun j hj => (Row.lt R1.out hj).1)⟩
theorem sit_ok {w : World} {p bm k t : Nat} {H : Hd} {v : Value} {l : List Int} (h : Se w p bm k t H) (hv : IdIn w v l) (hf : Off v p bm) (hl : l.length ≤ k) (hd : l.Nodup) (ht : t ≤ 5000) (hwf : ∀ x ∈ l, (Lit.int .i64 x).wf = true) (hT : Tab w) (NT : tabB ≠ p ∧ tabB ≠ bm) :
    Calls Tryd.prog 12 #[.pointer (some ⟨p, 0, none⟩), v] w fun e w' => ∃ u, e = .returned (.tuple #[u, .int .i64 0]) ∧ RowI w' w.heap.size u (sitL k (coreOf H) (nowOf H t) l) ∧ Se w' p bm k (t + 1) (mix H t (sit k (coreOf H) (nowOf H t) (rise l))) ∧ Ke (fun j => j = p ∨ j = bm) w w' := by
  have c0 := h.cs.c0
  have hk := h.k64
  have CL := Lib.hid (clone_any hv (by omega))
  obtain ⟨a, c, rfl, hcell⟩ := hv
  have d0 : decide ((l.length : Int) > (k : Int)) = false := by simp; omega
  have hlz : ¬ (k : Int) < (l.length : Int) := by omega
  have hcr := Lib.hid (compact_rise hd)
  have hll : Hid ((Lib.compact (rise l)).length = l.length) := by rw [Hid, hcr.out, rise_length]
  have WF := Lib.hid (rise_wf hwf)
  have WF0 := Lib.hid hwf
  have SE := Lib.hid h
  have NE := h.ne
  have KB : 1 ≤ k ∧ k ≤ 64 := ⟨h.k1, h.k64⟩
  have HTT := Lib.hid h.ht
  have HT := Lib.hid hT
  have HF := Lib.hid hf
  have HC := Lib.hid hcell
  clear hd h hwf hT hf hcell
  go_enter Tryd.func12, Tryd.ntmps12
  go_wp2_with fail
  refine CL.out.mono ?_
  rintro e w1 ⟨u, rfl, row1, g1⟩
  have SR := Lib.hid (sort_row row1 (by omega))
  have R1 := Lib.hid row1
  have G1 := Lib.hid g1
  clear CL row1 g1
  go_wp2_with fail
  refine SR.out.mono ?_
  rintro e w2 ⟨rfl, row2, k2⟩
  have CR := Lib.hid (compact_row row2 (by rw [rise_length]; omega))
  have K2 := Lib.hid k2
  clear SR row2 k2
  go_wp2_with fail
  refine CR.out.mono ?_
  rintro e w3 ⟨a3, c3, rfl, row3, k3⟩
  have R3 := Lib.hid (row3 hcr.out)
  have G3 : Hid (Gr w w3) := gr_ke (gr_ke G1.out K2.out (fun j hj => (Row.lt R1.out hj).1)) k3 (fun j hj => (Row.lt R1.out hj).1)
  rw [hll.out]
  clear CR row3 k3 K2
  have se3 := SE.out.gr G3.out
  have hp := SE.out.cs.lt
  have hbm := SE.out.own.lt
  have PL := Lib.hid (place_any se3.cs se3.own se3.ne se3.k64 se3.k1 (by omega) se3.ht R3.out (fun j hj => by have := (Row.lt R1.out hj).1; omega) (by rw [rise_length]; exact hl) (by omega) WF.out (fun j hj => gcell G3.out (HT.out j hj)) NT)
  have d1 : decide ((l.length : Int) < (l.length : Int)) = false := by simp
  clear se3
  go_wp2_with fail
  refine PL.out.mono ?_
  rintro e w4 ⟨rfl, cs4, ow4, k4⟩
  have CS4 := Lib.hid cs4
  have OW4 := Lib.hid ow4
  have K4 := Lib.hid k4
  have mk := make30 l.length (by omega) w4
  have RM := Lib.hid (row_made w4 l.length (by omega))
  clear PL cs4 ow4 k4
  go_upto_region 10 with fail
  obtain ⟨B, hB⟩ : ∃ B, B = w4.heap.size := ⟨_, rfl⟩
  obtain ⟨w5, hw5⟩ : ∃ w5, w5 = w4.alloc (.cells (Array.replicate l.length (.int .i64 0)) 3) := ⟨_, rfl⟩
  have g5 : Gr w4 w5 := by rw [hw5]; exact (Ke.refl _ w4).alloc _
  rw [← hw5, ← hB] at mk RM
  have hpB : p < B := by have := K4.out.size; have := G3.out.size; omega
  have hmB : bm < B := by have := K4.out.size; have := G3.out.size; omega
  have hwB : w.heap.size ≤ B := by have := K4.out.size; have := G3.out.size; omega
  have h4B : Hid (w4.heap.size ≤ B) := by rw [Hid, hB]; exact Nat.le_refl _
  obtain ⟨S, hS⟩ : ∃ S, S = sit k (coreOf H) (nowOf H t) (rise l) := ⟨_, rfl⟩
  rw [← hS] at OW4
  have HS := Lib.hid hS
  have hall : Hid (∀ x ∈ l, ∃ c, S.G x = some c) := fun x hx => by
    have := sit_all (k := k) (A := coreOf H) (N := nowOf H t) ((rise_mem l x).2 hx)
    rw [← hS] at this
    cases e : S.G x with
    | none => exact absurd e this
    | some c => exact ⟨c, rfl⟩
  have hsl : Hid (sitL k (coreOf H) (nowOf H t) l = l.map fun x => (((S.G x).getD 0 : Nat) : Int)) := by rw [hS]; rfl
  have CS5 := Lib.hid (CS4.out.keep (g5.block _ CS4.out.lt (fun q => q)))
  have OW5 := Lib.hid (OW4.out.keep (g5.block _ OW4.out.lt (fun q => q)))
  have K5 : Hid (Ke (fun j => j = p ∨ j = bm) w w5) := ((G3.out.of_gr : Ke (fun j => j = p ∨ j = bm) w w3).trans K4.out).trans g5.of_gr
  have C5 : Hid (l = [] ∨ ∃ b off, a = some ⟨b, off, none⟩ ∧ b < w.heap.size ∧ ∀ j, j < l.length → w5.cell? ⟨b, off + j, none⟩ = some (.int .i64 (l.getD j 0))) := by
    rcases HC.out with q | ⟨b, off, rfl, q⟩
    · exact .inl q
    · rcases Nat.eq_zero_or_pos l.length with e0 | e0
      · exact .inl (List.length_eq_zero_iff.1 e0)
      · refine .inr ⟨b, off, rfl, lt_of_cell (q 0 e0), fun j hj => ?_⟩
        have := HF.out b off l.length c rfl e0
        exact (K5.out.cell (lt_of_cell (q j hj)) (fun z => by rcases z with z | z; exact this.1 z; exact this.2 z)).trans (q j hj)
  obtain ⟨N0, hN⟩ : ∃ N0, N0 = l.length := ⟨_, rfl⟩
  have NN := Lib.hid hN
  have RM' : Hid (Row w5 w.heap.size 3 1 (.slice (some ⟨B, 0, none⟩) l.length l.length) l.length (fun _ => .int .i64 0)) := ⟨RM.out.1, by
    rcases RM.out.2 with q | ⟨g, cap, cur, e, q, r⟩
    · exact .inl q
    · exact .inr ⟨g, cap, cur, e, Nat.le_trans (by cases e; exact hwB) (Nat.le_refl _), r⟩⟩
  rw [← hN] at mk hl RM' ⊢
  clear hw5 hS hB RM CS4 OW4 K4 HC HF hcr hll SE HT R3 R1 G1 WF hN d0 d1 hlz
  go_wp2_with fail
  go_loopg [37] N0 (fun kx s37 wr => ∃ i : Nat, s37 = .int .i64 i ∧ i ≤ N0 ∧ N0 - i ≤ kx ∧ Aside (Row wr w.heap.size 3 1 (.slice (some ⟨B, 0, none⟩) N0 N0) N0 (fun j => .int .i64 (if j < i then (((S.G (l.getD j 0)).getD 0 : Nat) : Int) else 0)) ∧ Ke (fun j => j = B) w5 wr))
  case atStart => exact ⟨0, rfl, by omega, by omega, RM'.out.congr (fun j _ => by simp), Ke.refl _ _⟩
  case round =>
    obtain ⟨i, rfl, hi, hix, HI⟩ := hrel
    by_cases hlt : i < N0
    · have hltz : (i : Int) < (N0 : Int) := by omega
      obtain ⟨ROW, KK⟩ := HI.out
      obtain ⟨b, off, rfl, hbl, cells⟩ : ∃ b off, a = some ⟨b, off, none⟩ ∧ b < w.heap.size ∧ ∀ j, j < l.length → w5.cell? ⟨b, off + j, none⟩ = some (.int .i64 (l.getD j 0)) := by
        rcases C5.out with q | q
        · have := NN.out; rw [q] at this; simp at this; omega
        · exact q
      have hil : i < l.length := by have := NN.out; omega
      have cx : wr.cell? ⟨b, off + i, none⟩ = some (.int .i64 (l.getD i 0)) := (KK.cell (lt_of_cell (cells i hil)) (fun q => by simp only at q; omega)).trans (cells i hil)
      have cB := ROW.cell i (by omega)
      have zB := ROW.frozen i
      obtain ⟨x, hx⟩ : ∃ x, x = l.getD i 0 := ⟨_, rfl⟩
      rw [← hx] at cx
      have hxm : x ∈ l := by rw [hx, List.getD_eq_getElem?_getD, List.getElem?_eq_getElem hil]; simp
      have hwx := WF0.out x hxm
      have ow := OW5.out.keep (w' := wr) (KK.block _ OW5.out.lt (by omega))
      have cs := CS5.out.keep (w' := wr) (KK.block _ CS5.out.lt (by omega))
      have LK := ow.look x hwx
      obtain ⟨c0', hc0⟩ := hall.out x hxm
      rw [mix_some hc0] at LK
      have c2 := cs.c2
      have hv : Hid ((((S.G (l.getD i 0)).getD 0 : Nat) : Int) = (c0' : Int)) := by rw [Hid, ← hx, hc0]; rfl
      have FD := fun W => field540 (c0' : Int) ((t : Int) + 1) W
      have RO := Lib.hid ROW
      have KE := Lib.hid KK
      simp only [st0, st1] at LK
      clear ROW KK cells HI ow cs hc0 hx
      go_wp2_with fail
      go_roundg (N0 - (i + 1))
      case measure => omega
      case rel =>
        refine ⟨i + 1, by go_num, by omega, Nat.le_refl _, (RO.out.set i _).congr fun j hj => ?_, KE.out.set (p := ⟨B, i, none⟩) (.inl rfl) _⟩
        by_cases e : j = i
        · subst e; rw [upd_same, if_pos (by omega), hv.out]
        · rw [upd_other _ _ e]
          by_cases q : j < i
          · rw [if_pos (by omega), if_pos q]
          · rw [if_neg (by omega), if_neg q]
    · have hltz : ¬ (i : Int) < (N0 : Int) := by omega
      obtain ⟨ROW, KK⟩ := HI.out
      have e5 : i = N0 := by omega
      have RO := Lib.hid ROW
      have KE := Lib.hid KK
      clear ROW KK HI
      go_wp2
      go_ret2
      have ow := OW5.out.keep (w' := wr) (KE.out.block _ OW5.out.lt (by omega))
      have cs := CS5.out.keep (w' := wr) (KE.out.block _ CS5.out.lt (by omega))
      have hlen : (sitL k (coreOf H) (nowOf H t) l).length = N0 := by rw [sitL_length]; exact NN.out.symm
      refine ⟨_, rfl, ?_, ⟨cs, ?_, NE, KB.1, KB.2, ?_⟩, ?_⟩
      · show Row wr w.heap.size 3 1 _ _ _
        rw [hlen]
        refine RO.out.congr fun j hj => ?_
        have hjl : j < l.length := by have := NN.out; omega
        rw [if_pos (by omega)]
        show Value.int .i64 _ = _
        rw [hsl.out]
        simp [List.getD_eq_getElem?_getD, List.getElem?_eq_getElem hjl]
      · rw [← HS.out]; exact ow
      · have := HTT.out.next (sit_iv HTT.out.ok KB.2 (l := rise l) (by rw [rise_length]; have := NN.out; omega))
        exact this
      · have h1 := K5.out
        exact ⟨KE.out.os.trans h1.os, KE.out.tape.trans h1.tape, KE.out.output.trans h1.output, Nat.le_trans h1.size KE.out.size, fun j hj hn => (KE.out.block j (Nat.lt_of_lt_of_le hj h1.size) (fun q => by have q' : j = B := q; omega)).trans (h1.block j hj hn)⟩
end Go.Proofs.YtnmdidglfegdcaaDoor
