/- The calendar: contracts of Next, Len, pop. -/
import Derived.Test.YtlpjojegdnconaaDoorI8
namespace Go.Proofs.YtlpjojegdnconaaDoor.Ca
open Go.RowKit Go.Lib Go.Maps
set_option linter.unusedVariables false
set_option maxRecDepth 100000

theorem len_nil (w : World) : Calls Tryd.prog 92 #[.pointer none] w fun e w' => e = .returned (.int .i64 0) ∧ w' = w := by
  go_enter Tryd.func92, Tryd.ntmps92
  go_wp2
  go_ret
  exact ⟨rfl, rfl⟩
theorem top_nil (w : World) : Calls Tryd.prog 76 #[.pointer none] w fun e w' => e = TopV 0 ⟨0, 0, 0, 0⟩ false ∧ Gr w w' := by
  have C := Lib.hid len_nil
  go_enter Tryd.func76, Tryd.ntmps76
  go_wp2_with fail
  refine (C.out _).mono ?_
  rintro e w1 ⟨rfl, hw⟩
  obtain rfl := hw.symm
  clear hw
  go_wp2
  exact bodyPost_ret (v := .tuple #[.int .i64 0, V ⟨0, 0, 0, 0⟩, .bool false]) (by simp [results, Tryd.results76, go_sem]) rfl ⟨rfl, (Ke.refl _ _).alloc _⟩

section
variable {w w' : World} {base : Bs} {p c : Nat} {F : Nat → Prop} {n : Nat} {M : Nat → Option Rk}
theorem first_at0 (r : Rk) : First 2 (at0 (some r)) 0 r := ⟨upd_same _ _ _, fun s' r' h' hne => by
  unfold at0 at h'
  rw [upd_other _ _ hne] at h'
  cases h'⟩
theorem next_top (v : Value) (r : Rk) (b : Bool) (c4 : w.cell? ⟨p, 72, none⟩ = some v) (C : Calls Tryd.prog 76 #[v] w fun e w' => e = TopV 0 r b ∧ Gr w w') (hv : ∃ q, v = .pointer q) :
    Calls Tryd.prog 56 #[.pointer (some ⟨p, 68, none⟩)] w fun e w' => e = .returned (.tuple #[.int .i64 r.d, .bool b]) ∧ Gr w w' := by
  obtain ⟨q, rfl⟩ := hv
  have CC := Lib.hid C
  have hpl := lt_of_cell c4
  simp only at hpl
  obtain ⟨rd, rb, rg, ri⟩ := r
  clear C
  go_enter Tryd.func56, Tryd.ntmps56
  go_wp2_with fail
  refine CC.out.mono ?_
  rintro e w1 ⟨rfl, g1⟩
  have G1 := Lib.hid g1
  clear g1 CC
  go_wp2
  go_ret2
  exact ⟨rfl, G1.out.alloc _⟩
theorem cal_next_none (h : Cal w base p c F 0 M) : Calls Tryd.prog 56 #[.pointer (some ⟨p, 68, none⟩)] w fun e w' => e = .returned (.tuple #[.int .i64 0, .bool false]) ∧ Gr w w' := by
  rcases h with ⟨h, _, rfl⟩ | ⟨Fc, F0, F1, g, cap, p0, p1, o, h, t, rfl⟩
  · exact next_top (.pointer none) ⟨0, 0, 0, 0⟩ false h.c4 (top_nil w) ⟨_, rfl⟩
  · have ho : o = none := by
      rcases t with ⟨_, e⟩ | ⟨s, r, hf, e⟩
      · exact e
      · have := hf.has
        rw [st_zero h.s0 s] at this
        cases this
    subst ho
    exact next_top _ ⟨0, 0, 0, 0⟩ false h.c4 (st_top_none h.s1) ⟨_, rfl⟩
theorem cal_next_some (h : Cal w base p c F n M) (s : Nat) (r : Rk) (hf : First 2 M s r) : Calls Tryd.prog 56 #[.pointer (some ⟨p, 68, none⟩)] w fun e w' => e = .returned (.tuple #[.int .i64 r.d, .bool true]) ∧ Gr w w' := by
  rcases h with ⟨h, _, rfl⟩ | ⟨Fc, F0, F1, g, cap, p0, p1, o, h, t, rfl⟩
  · cases hf.has
  · have ho : o = some r := by
      rcases t with ⟨e1, e⟩ | ⟨s', r', hf', e⟩
      · subst e1
        have := hf.has
        rw [st_zero h.s0 s] at this
        cases this
      · rw [e, (hf.unique hf').2]
    subst ho
    exact next_top _ r true h.c4 (st_top h.s1 0 r (first_at0 r)) ⟨_, rfl⟩

/-- What pop leaves. -/
structure PpP (w : World) (base : Bs) (p c : Nat) (F : Nat → Prop) (n : Nat) (M : Nat → Option Rk) (s : Nat) (w' : World) : Prop where
  ex : ∃ F', Cal w' base p c F' n (upd M s none) ∧ Sv F F' w w'

end
section
variable {w : World} {base : Bs} {p c : Nat} {Fc F0 F1 : Nat → Prop} {g cap p0 p1 : Nat} {n : Nat} {M : Nat → Option Rk} {o : Option Rk}
/-- The heap's first goes, the first's heap is told. -/
theorem pop_heap (h : Cal3 w base p c Fc F0 F1 g cap p0 p1 (ownOf M) (n + 1) M o) (s : Nat) (r : Rk) (hf : First 2 M s r) :
    Calls Tryd.prog 77 #[.pointer (some ⟨p0, 0, none⟩)] w fun e w' => e = TopV s r true ∧ Ke F0 w w' ∧ ∀ W, Gr w' W → Calls Tryd.prog 64 #[.pointer (some ⟨p, 68, none⟩), .int .i64 0] W fun e w'' => e = .returned (.tuple #[]) ∧ Ke F1 W w'' ∧
      ∃ F1' o', Cal3 w'' base p c Fc F0 F1' g cap p0 p1 (ownOf M) n (upd M s none) o' ∧ IsTop n (upd M s none) o' ∧ Sv (FootA Fc F0 F1 g) (FootA Fc F0 F1' g) w w'' := by
  refine (st_pop h.s0 s r hf).mono ?_
  rintro e w' ⟨rfl, s', k⟩
  refine ⟨rfl, k, fun W gW => ?_⟩
  have v0 : Sv F0 F0 w w' := ⟨k, fun _ q => .inl q⟩
  have c1 := (h.step0 s' v0).gr gW
  refine (refresh_any c1).mono ?_
  rintro e w'' ⟨rfl, q⟩
  obtain ⟨F1', o', c2, t2, v2⟩ := q.ex
  exact ⟨rfl, v2.ke, F1', o', c2, t2, ((sv_0 v0).trans (Sv.of_gr gW)).trans (sv_1 v2)⟩

set_option maxHeartbeats 1000000 in
theorem pop_used (h : Cal3 w base p c Fc F0 F1 g cap p0 p1 (ownOf M) (n + 1) M o) (s : Nat) (r : Rk) (hf : First 2 M s r) (ho : o = some r) :
    Calls Tryd.prog 57 #[.pointer (some ⟨p, 68, none⟩)] w fun e w' => e = .returned (.int .i64 r.i) ∧ PpP w base p c (FootA Fc F0 F1 g) n M s w' := by
  subst ho
  have c4 := h.c4
  have c3 := h.c3
  have cg := h.cg
  have hpl := (h.ch.lt h.ch.self).2
  have hgl := h.gl
  have C := Lib.hid (st_top h.s1 0 r (first_at0 r))
  have PH := Lib.hid (fun W (k : Gr w W) => pop_heap (h.gr k) s r hf)
  have NB : Hid (∀ j, w.heap.size ≤ j → ¬ FootA Fc F0 F1 g j) := fun j hj q => by have := (h.lt q).2; omega
  have hM := hf.has
  have hmk := h.ch.mark (m := s) (i := r.i) (by unfold ownOf; rw [hM]; rfl)
  have OW : Hid (ownOf M s = some r.i) := by show ownOf M s = some r.i; unfold ownOf; rw [hM]; rfl
  have hs6 : s ≤ 65536 := by omega
  obtain ⟨rd, rb, rg, ri⟩ := r
  simp only at OW hmk ⊢
  clear h hf hM hmk
  go_enter Tryd.func57, Tryd.ntmps57
  go_wp2_with fail
  refine C.out.mono ?_
  rintro e w1 ⟨rfl, g1⟩
  have G1 := Lib.hid g1
  have hs1 := g1.size
  have c3' := gcell g1 c3
  have cg' := gcell g1 cg
  have hpl1 : p < w1.heap.size := by omega
  have hgl1 : g < w1.heap.size := by omega
  clear C g1 c3 cg c4
  go_wp2_with fail
  refine (PH.out _ (G1.out.alloc _)).mono ?_
  rintro e w2 ⟨rfl, k2, R2⟩
  have b3 : w2.cell? ⟨w1.heap.size, 3, none⟩ = some (.int .i64 ri) := (k2.cell (p := ⟨w1.heap.size, 3, none⟩) (by simp) (fun q => NB.out _ hs1 (.inr (.inl q)))).trans (by simp [go_sem])
  have hs2 : w1.heap.size < w2.heap.size := by have := k2.size; simp at this; omega
  have RR := Lib.hid R2
  clear PH k2 R2 c3' cg'
  go_wp2_with fail
  refine (RR.out _ ((Ke.refl _ _).alloc _)).mono ?_
  rintro e w3 ⟨rfl, k3, F1', o', c3', t3, v3⟩
  have b3' : w3.cell? ⟨w1.heap.size, 3, none⟩ = some (.int .i64 ri) := (k3.cell (p := ⟨w1.heap.size, 3, none⟩) (by simp; omega) (fun q => NB.out _ hs1 (.inr (.inr (.inl q))))).trans (gcell ((Ke.refl _ _).alloc _) b3)
  have hs3 : w1.heap.size < w3.heap.size := lt_of_cell b3'
  have CC := Lib.hid c3'
  have TT := Lib.hid t3
  have VV := Lib.hid v3
  have RM : Hid (∀ x : Int, x = (s : Int) → Calls Tryd.prog 78 #[.pointer (some ⟨p, 68, none⟩), .int .i64 x, .int .i64 ri] w3.drew fun e w' => e = .returned (.tuple #[]) ∧ RmQ w3.drew base p c Fc (upd (ownOf M) s none) w') := fun x hx => by
    rw [hx]
    exact chn_remove ((c3'.gr (Ke.refl _ _).drew).ch) ri OW.out
  have NC : Hid (¬ Fc w1.heap.size) := fun q => NB.out _ hs1 (.inl q)
  clear RR k3 c3' t3 v3 b3
  have kb : w3.drew.cell? ⟨w1.heap.size, 3, none⟩ = some (.int .i64 ri) := b3'
  have wr0 : IntKind.i64.wrap 0 = 0 := by rw [IntKind.wrap_i64]; omega
  have wr1 : IntKind.i64.wrap (s : Int) = (s : Int) := by rw [IntKind.wrap_i64]; omega
  go_upto_region 4 with fail
  go_region_held3 (fun w' => w'.cell? ⟨w1.heap.size, 3, none⟩ = some (.int .i64 ri))
    (with_reducible first | exact kb | exact kd)
    (first | (go_at_call 78; refine (RM.out _ (by simp)).mono ?_; rintro e w4 ⟨rfl, Q4⟩; have kd := (Q4.ke.cell (p := ⟨w1.heap.size, 3, none⟩) hs3 NC.out).trans kb; have QQ := Lib.hid Q4; clear Q4))
  go_wp2
  go_ret
  have v4 : Sv Fc Fc w3 w4 := ⟨((Ke.refl _ w3).drew).trans QQ.out.ke, fun _ q => .inl q⟩
  have c5 := CC.out.stepC QQ.out.ch v4 (fun o ho => QQ.out.rest o ho)
  rw [← ownOf_drop] at c5
  exact ⟨rfl, ⟨_, .inr ⟨_, _, _, _, _, _, _, _, c5, TT.out, rfl⟩, ((Sv.of_gr (G1.out.alloc _)).trans VV.out).trans (sv_C v4)⟩⟩

theorem cal_pop {F : Nat → Prop} (h : Cal w base p c F (n + 1) M) (s : Nat) (r : Rk) (hf : First 2 M s r) :
    Calls Tryd.prog 57 #[.pointer (some ⟨p, 68, none⟩)] w fun e w' => e = .returned (.int .i64 r.i) ∧ PpP w base p c F n M s w' := by
  rcases h with ⟨h, q, rfl⟩ | ⟨Fc, F0, F1, g, cap, p0, p1, o, h, t, rfl⟩
  · omega
  · rcases t with ⟨q, _⟩ | ⟨s', r', hf', e⟩
    · omega
    · exact pop_used h s r hf (by rw [e, (hf.unique hf').2])
end
end Go.Proofs.YtlpjojegdnconaaDoor.Ca
