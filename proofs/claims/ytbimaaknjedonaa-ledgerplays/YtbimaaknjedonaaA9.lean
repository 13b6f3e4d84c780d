/- The ledger: Drop. -/
import Derived.Test.YtbimaaknjedonaaA8
import Derived.Test.YtbimaaknjedonaaGt
import Derived.Deep.RegionLaw
namespace Go.Proofs.Ytbimaaknjedonaa
open Go.RowKit Go.Lib Go.Maps
set_option linter.unusedVariables false

theorem LM.setS {W : World} {l : Nat} {m1 m2 : Value} {c s0 s1 s2 : Int} (h : LM W l m1 m2 c s0 s1 s2) (r0 r1 : Int) : LM ((W.setCell ⟨l, 3, none⟩ (.int .i64 r0)).setCell ⟨l, 4, none⟩ (.int .i64 r1)) l m1 m2 c r0 r1 s2 := by
  obtain ⟨a0, a1, a2, a3, a4, a5, fz⟩ := h
  refine ⟨?_, ?_, ?_, ?_, ?_, ?_, fun o => by simpa using fz o⟩
  all_goals simp [go_sem, a0, a1, a2, a3, a4, a5]

section
variable {w : World} {S : Nat → Prop} {l : Nat} {k : Int} {L : List Wt}
theorem drop_no (h : Led w S l k L) (i : Int) (hi : (Lit.int .i64 i).wf = true) (ht : ∀ x ∈ L, x.id ≠ i) :
    Calls Try.prog 11 #[.pointer (some ⟨l, 0, none⟩), .int .i64 i] w fun x w' => x = .returned (.bool false) ∧ Gr w w' := by
  obtain ⟨c, _, ⟨⟨s0, s1, s2, a0⟩, e0, _⟩ | ⟨b1, b2, a, _⟩⟩ := h
  · have c1 := a0.c1
    have hp := a0.lt
    have HL := fun w => Maps.look_nil (P := Try.prog) (w := w) (t := 51) true law3 Try.underlying51 (zero59 w) (keyOf_int_mk Try.underlying3 hi)
    simp only [if_true] at HL
    clear a0 ht e0
    go_enter Try.func11, Try.ntmps11
    go_wp2
    go_ret
    exact ⟨rfl, (Ke.refl _ _).alloc _⟩
  · obtain ⟨s0, s1, s2, a0, _⟩ := a.ex
    obtain ⟨D1, o1, m1⟩ := a.o1
    have HA := Lib.hid (m1.no ht)
    have OW := Lib.hid o1
    have c1 := a0.c1
    have hp := a0.lt
    clear a0 a m1 o1 ht
    go_enter Try.func11, Try.ntmps11
    go_wp2_with (at_lookup; refine wpList_lookup_own_ok _ rfl _ _ 51 rfl 3 59 law3 Try.underlying51 tkElem (zero59 _) (tw 0 0) [] (tkElem_mk 0 0) b1 _ D1 rfl OW.out _ _ rfl (keyOf_int_mk Try.underlying3 hi) ?_; intro v ps hv; obtain ⟨e', p', rfl, _⟩ := tkElem_inv hv; clear hv; rw [HA.out])
    go_ret
    exact ⟨rfl, (Ke.refl _ _).alloc _⟩
end

/-- Drop on its way: the sum turned. -/
def DropMid (l : Nat) (N D : Int) (w W' : World) : Prop := ∃ W, Gr w W ∧ W' = (W.setCell ⟨l, 3, none⟩ (.int .i64 N)).setCell ⟨l, 4, none⟩ (.int .i64 D)
set_option maxHeartbeats 2000000 in
theorem drop_yes {w : World} {l b1 b2 : Nat} {c : Int} {L : List Wt} {x : Wt} (h : Led1 w l b1 b2 c L) (i : Int) (hi : (Lit.int .i64 i).wf = true) (hx : x ∈ L) (hxi : x.id = i) :
    Calls Try.prog 11 #[.pointer (some ⟨l, 0, none⟩), .int .i64 i] w fun y w' => y = .returned (.bool true) ∧ Led1 w' l b1 b2 c (remL i L) ∧ Ke (Foot l b1 b2) w w' := by
  obtain ⟨s0, s1, s2, a0, ht⟩ := h.ex
  have t := ht (fun e => by rw [e] at hx; simp at hx)
  have tb := t.bd h.ok
  obtain ⟨N', D', M', t'⟩ := Tot.of (remL i L)
  have tb' := t'.bd h.ok.rem
  have rs := rem_step h.ok.ids hx
  rw [hxi] at rs
  obtain ⟨a, b, wn⟩ : ∃ a b, Wn x.e x.p a b := ⟨_, _, rfl, rfl⟩
  have hm : 1 ≤ x.e ∧ x.e ≤ x.p ∧ x.p ≤ 1048575 := ⟨(h.ok.may x hx).e0, (h.ok.may x hx).e1, (h.ok.may x hx).p1⟩
  have CS := Lib.hid (fun W : World => subG W t tb wn hm t' tb' rs.1)
  have CW := Lib.hid (fun W : World => weight_any x.e x.p a b W hm wn)
  have CF := Lib.hid (fun (W : World) (D2 : DataW Unit) (z0 z1 : Int) (hl : LM W l (.map (some b1)) (.map (some b2)) c z0 z1 s2) (o2 : W.ownsMap Try.prog 3 (plainElem Try.prog 3) b2 (Maps.size D2) D2) (m2 : MapC D2 L) => forget_any (x := x) hl o2 m2 h.ok hx t.m.symm h.p2)
  obtain ⟨D1, o1, m1⟩ := h.o1
  obtain ⟨D2, o2, m2⟩ := h.o2
  have HA := Lib.hid ((m1.has i).2 ⟨x, hx, hxi⟩)
  have HT := Lib.hid (m1.at_ x hx)
  have M1 := Lib.hid (hxi ▸ m1.rem (o1.tidy law3) h.ok.ids hx)
  have M2 := Lib.hid m2
  have OW := Lib.hid o1
  have OX := Lib.hid o2
  have OK := Lib.hid (h.ok.rem (i := i))
  have T' := Lib.hid t'
  have n1 := h.p1
  have n2 := h.p2
  have n12 := h.b12
  have A0 := Lib.hid a0
  have c1 := a0.c1
  have hp := a0.lt
  have HXI := Lib.hid hxi
  obtain ⟨e, he⟩ : ∃ e, x.e = e := ⟨_, rfl⟩
  obtain ⟨p, hp'⟩ : ∃ p, x.p = p := ⟨_, rfl⟩
  rw [he, hp', hxi] at HT
  rw [he, hp'] at CW
  rw [hp', hxi] at CF
  have L1 := Lib.hid o1.lt
  have L2 := Lib.hid o2.lt
  clear ht t tb tb' rs hm wn t' h o1 o2 m1 m2 a0 hx hxi he hp'
  go_enter Try.func11, Try.ntmps11
  go_wp2_with (first
    | (at_lookup; refine wpList_lookup_own_ok _ rfl _ _ 51 rfl 3 59 law3 Try.underlying51 tkElem (zero59 _) (tw 0 0) [] (tkElem_mk 0 0) b1 _ D1 rfl OW.out _ _ rfl (keyOf_int_mk Try.underlying3 hi) ?_; intro v ps hv; obtain ⟨e', p', rfl, hd⟩ := tkElem_inv hv; obtain ⟨rfl, rfl⟩ : e = e' ∧ p = p' := tw_inj ((HT.out _).symm.trans hd); clear hv hd; rw [HA.out])
    | (at_delete; refine wpList_delete_own _ rfl _ _ 51 3 rfl 59 law3 Try.underlying51 tkElem b1 _ D1 rfl (OW.out.alloc _) _ _ rfl (keyOf_int_mk Try.underlying3 hi) ?_; intro w3 own3 turn3; have OW3 := Lib.hid own3; have TU3 := Lib.hid turn3; clear own3 turn3))
  have G0 : Gr w (w.alloc (.cells #[.int .i64 e, .int .i64 p] 59)) := (Ke.refl _ w).alloc _
  have z1 := L1.out
  have z2 := L2.out
  have e0 : (w.alloc (.cells #[.int .i64 e, .int .i64 p] 59)).heap.size = w.heap.size + 1 := by simp
  have eb : w3.heap[w.heap.size]? = (w.alloc (.cells #[.int .i64 e, .int .i64 p] 59)).heap[w.heap.size]? := turned_block TU3.out (by omega) (by omega)
  have A3 := Lib.hid ((A0.out.keep (G0.block l A0.out.lt (fun f => f))).keep (turned_block TU3.out (by omega) n1))
  have O23 := Lib.hid (own_keep (OX.out.alloc (.cells #[.int .i64 e, .int .i64 p] 59)) (turned_block TU3.out (by omega) (Ne.symm n12)))
  have K3 : Hid (Ke (Foot l b1 b2) w w3) := (Ke.of_gr G0).trans (turned_ke TU3.out (.inr (.inl rfl)))
  have k0 : w3.cell? ⟨w.heap.size, 0, none⟩ = some (.int .i64 e) := (World.cell?_of_block eb).trans (by simp [go_sem])
  have k1 : w3.cell? ⟨w.heap.size, 1, none⟩ = some (.int .i64 p) := (World.cell?_of_block eb).trans (by simp [go_sem])
  have nb : w.heap.size ≠ l := by omega
  have k3 := A3.out.c3
  have k4 := A3.out.c4
  have f3 := A3.out.fz 3
  have f4 := A3.out.fz 4
  have l3 : l < w3.heap.size := A3.out.lt
  clear G0 e0 eb c1 z1 z2
  go_upto_region 7 with fail
  (try simp only [Act.put])
  go_cut [25] (fun _ wx => DropMid l N' D' w3 wx)
  case first =>
    go_region_law (first
      | (go_simp; go_at_call 24; (with_reducible refine (CW.out _).mono ?_); rintro y wA ⟨rfl, gA⟩; have c3A := kcell (w := w3.drew) gA k3; have c4A := kcell (w := w3.drew) gA k4; have f3A := kfz (w := w3.drew) gA l3 f3; have f4A := kfz (w := w3.drew) gA l3 f4; dsimp only)
      | (go_simp; go_at_call 23; (with_reducible refine (CS.out _).mono ?_); rintro y wB ⟨rfl, gB⟩; have c3B := kcell gB c3A; have c4B := kcell gB c4A; have f3B := kfz gB (cell_lt c3A) f3A; have f4B := kfz gB (cell_lt c4A) f4A; dsimp only))
    all_goals (go_wp2_with fail)
    all_goals go_meet
    all_goals exact ⟨_, ((Ke.refl _ w3).drew.gr gA).gr gB, rfl⟩
  case rest =>
  obtain ⟨W, gW, rfl⟩ := hcut
  have A4 := Lib.hid (A3.out.keep (gW.block l A3.out.lt (fun f => f)))
  have O24 := Lib.hid (own_keep O23.out (gW.block b2 O23.out.lt (fun f => f)))
  have O14 := Lib.hid (own_keep OW3.out (gW.block b1 OW3.out.lt (fun f => f)))
  have K4 := Lib.hid (K3.out.gr gW)
  replace k1 := kcell gW k1
  have c3 := A4.out.c3
  have c4 := A4.out.c4
  have z3 := A4.out.fz 3
  have z4 := A4.out.fz 4
  clear k0 k3 k4 f3 f4 gW CW CS
  go_wp2_with fail
  refine (CF.out _ D2 _ _ (A4.out.setS N' D') ((O24.out.setCell (Ne.symm n2) _).setCell (Ne.symm n2) _) M2.out).mono ?_
  rintro y w6 ⟨rfl, D6, s6, lm6, o6, m6, hs6, k6⟩
  have Z1 := Lib.hid lm6
  have Z2 := Lib.hid o6
  have Z3 := Lib.hid m6
  have Z4 := Lib.hid hs6
  have Z5 := Lib.hid k6
  clear lm6 o6 m6 hs6 k6 CF
  go_wp2
  go_ret
  have o14 := (O14.out.setCell (a := ⟨l, 3, none⟩) (Ne.symm n1) (.int .i64 N')).setCell (a := ⟨l, 4, none⟩) (Ne.symm n1) (.int .i64 D')
  refine ⟨rfl, ⟨⟨N', D', s6, Z1.out, fun _ => ⟨T'.out.n, T'.out.d, Z4.out.symm⟩⟩, ⟨_, own_tight (own_keep o14 (Z5.out.block b1 o14.lt (fun f => f.elim (fun e => n1 e.symm) n12))), M1.out⟩, ⟨D6, Z2.out, Z3.out⟩, n1, n2, n12, OK.out⟩, ?_⟩
  refine ((K4.out.set (p := ⟨l, 3, none⟩) (.inl (.inl rfl)) _).set (p := ⟨l, 4, none⟩) (.inl (.inl rfl)) _).trans (Z5.out.mono (fun g _ hg => ?_))
  rcases hg with rfl | rfl
  · exact .inl rfl
  · exact .inr (.inr rfl)

/-- Drop, in all. -/
theorem drop_any {w : World} {S : Nat → Prop} {l : Nat} {k : Int} {L : List Wt} (h : Led w S l k L) (i : Int) (hi : (Lit.int .i64 i).wf = true) (v : Bool) (hv : L.any (fun x => decide (x.id = i)) = v) :
    Calls Try.prog 11 #[.pointer (some ⟨l, 0, none⟩), .int .i64 i] w fun x w' => x = .returned (.bool v) ∧ Led w' S l k (remL i L) ∧ Ke S w w' := by
  cases v with
  | false =>
    have hn := any_no hv
    rw [remL_out hn]
    exact (drop_no h i hi hn).mono fun x w' ⟨a, g⟩ => ⟨a, h.gr g, Ke.of_gr g⟩
  | true =>
    obtain ⟨x, hx, hxi⟩ := any_id.1 hv
    obtain ⟨c, hk, ⟨_, rfl, _⟩ | ⟨b1, b2, a, rfl⟩⟩ := h
    · simp at hx
    · exact (drop_yes a i hi hx hxi).mono fun y w' ⟨q, z, g⟩ => ⟨q, ⟨c, hk, .inr ⟨b1, b2, z, rfl⟩⟩, g⟩
end Go.Proofs.Ytbimaaknjedonaa
