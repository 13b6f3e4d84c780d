/- pick: the contract of Best, its plain half and what its loop holds. -/
import Derived.Test.YtkapejgokcpbiaaT6
import Derived.Maps.OwnSet
import Derived.Deep.LoopGhost
namespace Go.Proofs.Ytkapejgokcpbiaa
open Go.RowKit Go.Lib Go.Maps
set_option linter.unusedVariables false
set_option maxRecDepth 100000
set_option maxHeartbeats 2000000

/-- The o-th cell of a task. -/
def fld (x : Tk) (k : Nat) : Value := match k with
  | 0 => .int .i64 x.id
  | 1 => .int .i64 x.e
  | 2 => .int .i64 x.p
  | 3 => .bool x.sp
  | 4 => .bool x.le
  | 5 => .bool x.wa
  | 6 => .bool x.ac
  | 7 => .int .i64 x.r
  | 8 => .int .i64 x.g
  | 9 => .bool x.dn
  | _ => .int .i64 x.ct
def tc (l : Nat → Tk) (j : Nat) : Value := fld (l (j / 11)) (j % 11)
theorem tc_at (l : Nat → Tk) (i o : Nat) (ho : o < 11) : tc l (i * 11 + o) = fld (l i) o := by unfold tc; rw [show (i * 11 + o) / 11 = i by omega, show (i * 11 + o) % 11 = o by omega]
theorem fld_one (x : Tk) (o : Nat) : (fld x o).oneCell' = true := by unfold fld; split <;> rfl

/-- first of a line with nothing in it. -/
theorem first_none {w : World} {base pl : Nat} (h : L0 w base pl) (n : Int) : Calls Try.prog 25 #[.pointer (some ⟨pl, 0, none⟩), .int .i64 n] w fun e w' => e = .returned (.slice none 0 0) ∧ Gr w w' := by
  have c0 := h.c0
  have hp0 := h.lp
  have N1 := Lib.hid (new_any w 1)
  have T1 : Hid (St (w.alloc HO) 0 w.heap.size 1 (fun g => g = w.heap.size) 0 (fun _ => none)) := st_made w 0 (Nat.zero_le _)
  have G1 : Hid (Gr w (w.alloc HO)) := (Ke.refl _ _).alloc _
  have d0 := gcell G1.out c0
  clear h
  go_enter Try.func25, Try.ntmps25
  go_wp2_with fail
  refine N1.out.mono ?_
  rintro e w1 ⟨rfl, hw⟩
  obtain rfl := hw
  clear N1
  generalize w.heap.size = pt at *
  generalize w.alloc HO = W1 at *
  clear c0 hp0
  go_wp2_with fail
  go_loopg [18] 0 (fun kx s18 wr => s18 = .int .i64 0 ∧ wr = W1)
  case atStart => exact ⟨rfl, rfl⟩
  case round =>
    obtain ⟨rfl, rfl⟩ := hrel
    have C := Lib.hid (st_pop_none T1.out)
    clear T1
    go_wp2_with fail
    go_loopg [8] 0 (fun kx s8 wr' => s8 = .slice none 0 0 ∧ wr' = wr)
    case atStart => exact ⟨rfl, rfl⟩
    case round =>
      obtain ⟨rfl, rfl⟩ := hrel
      by_cases hn : 0 < n
      · go_wp2_with fail
        refine C.out.mono ?_
        rintro x w2 ⟨rfl, k2⟩
        have G2 := Lib.hid (G1.out.trans (k2.alloc (.cells #[.int .i64 0, .int .i64 0, .int .i64 0, .int .i64 0] 32)))
        clear k2
        go_wp2
        go_ret
        exact ⟨rfl, G2.out⟩
      · go_wp2
        go_ret
        exact ⟨rfl, G1.out⟩

/-! ### what the loop holds -/
/-- Those of the first i that wait. -/
def clI (l : Nat → Tk) (c : Int) (ea : Bool) (i : Nat) : List Nat := (List.range i).filter (cndB l c ea)
theorem cl_yes {l : Nat → Tk} {c : Int} {ea : Bool} {i : Nat} (h : cndB l c ea i = true) : clI l c ea (i + 1) = clI l c ea i ++ [i] := by
  unfold clI; rw [List.range_succ, List.filter_append]; simp [h]
theorem cl_no {l : Nat → Tk} {c : Int} {ea : Bool} {i : Nat} (h : cndB l c ea i = false) : clI l c ea (i + 1) = clI l c ea i := by
  unfold clI; rw [List.range_succ, List.filter_append]; simp [h]
theorem cl_cl (l : Nat → Tk) (c : Int) (ea : Bool) (N : Nat) : Cl (clI l c ea N) N (cndB l c ea) := by
  refine ⟨List.Pairwise.filter _ List.nodup_range, fun a ha => ?_, fun a ha hR => ?_⟩
  · unfold clI at ha; rw [List.mem_filter] at ha; exact List.mem_range.1 ha.1
  · unfold clI; rw [List.mem_filter]; exact ⟨List.mem_range.2 ha, hR⟩
theorem clI_le (l : Nat → Tk) (c : Int) (ea : Bool) (i : Nat) : (clI l c ea i).length ≤ i := by
  unfold clI
  have := List.length_filter_le (cndB l c ea) (List.range i)
  simpa using this
theorem hm_nil (key : Nat → Rk) (R : Nat → Bool) : Hm [] key R (fun _ => none) := fun s => by simp
theorem Hm.out {cl : List Nat} {key : Nat → Rk} {R : Nat → Bool} {M : Nat → Option Rk} (h : Hm cl key R M) : M cl.length = none := by rw [h]; simp
theorem Hm.add {cl : List Nat} {key : Nat → Rk} {R : Nat → Bool} {M : Nat → Option Rk} (h : Hm cl key R M) {a : Nat} (hR : R a = true) : Hm (cl ++ [a]) key R (upd M cl.length (some (key a))) := fun s => by
  by_cases q : s = cl.length
  · subst q; rw [upd_same]; simp [hR]
  · rw [upd_other _ _ q, h s]
    by_cases q2 : s < cl.length
    · rw [List.getElem?_append_left q2]
    · rw [List.getElem?_eq_none (by omega), List.getElem?_eq_none (by simp; omega)]
/-- The line behind i rounds. -/
def Lz (w W : World) (pl bm : Nat) (l : Nat → Tk) (c : Int) (ea : Bool) (i : Nat) : Prop :=
  (clI l c ea i = [] ∧ L0 W w.heap.size pl) ∨ ∃ g cap hp F M, 0 < (clI l c ea i).length ∧ Ln W w.heap.size pl g cap hp (clI l c ea i).length F (clI l c ea i).length M ∧ Hm (clI l c ea i) (fun j => rkT (l j)) (cndB l c ea) M ∧ ¬ FootL pl g F bm
/-- .. and the map, which is one round ahead of it, or none. -/
structure Bw (w W : World) (pl bm : Nat) (l : Nat → Tk) (c : Int) (ea : Bool) (i k : Nat) (D : DataW Unit) : Prop where
  gr : Gr w W
  own : W.ownsMap Try.prog 3 unitElem bm k D
  has : ∀ x : Int, Maps.has D (.int .i64 x) = true ↔ ∃ j, j < k ∧ (l j).id = x
  ln : Lz w W pl bm l c ea i
  pb : pl ≠ bm
  wp : w.heap.size ≤ pl
  wb : w.heap.size ≤ bm
theorem own_keep {w w' : World} {b n : Nat} {D : DataW Unit} (h : w.ownsMap Try.prog 3 unitElem b n D) (e : w'.heap[b]? = w.heap[b]?) : w'.ownsMap Try.prog 3 unitElem b n D := by
  obtain ⟨es, cl, h1, h2⟩ := h
  exact ⟨es, cl, e.trans h1, h2⟩
section
variable {w W W' : World} {pl bm : Nat} {l : Nat → Tk} {c : Int} {ea : Bool} {i k : Nat} {D : DataW Unit}
theorem Bw.gr' (h : Bw w W pl bm l c ea i k D) (g : Gr W W') : Bw w W' pl bm l c ea i k D :=
  { h with
    gr := h.gr.trans g
    own := own_keep h.own (g.block bm h.own.lt (fun q => q))
    ln := by
      rcases h.ln with ⟨a, b⟩ | ⟨g', cap, hp, F, M, a, b, d, e⟩
      · exact .inl ⟨a, b.gr g⟩
      · exact .inr ⟨g', cap, hp, F, M, a, b.gr g, d, e⟩ }
theorem law3 : Keyed Try.prog 3 := int_keyed Try.underlying3
theorem zero59 (w : World) : (zeroValue 59).run Try.prog w = .ok (.agg #[]) w := by kernel_rfl
/-- One id more in the map. -/
theorem Bw.map (h : Bw w W pl bm l c ea i i D) (o : W'.ownsMap Try.prog 3 unitElem bm (i + 1) (D.put (.int .i64 (l i).id) (.agg []))) (t : W.mapTurned W' bm) (hw : (Lit.int .i64 (l i).id).wf = true) :
    Bw w W' pl bm l c ea i (i + 1) (D.put (.int .i64 (l i).id) (.agg [])) := by
  have K : Ke (fun j => j = bm) W W' := (Ke.refl _ W).grown t.grown (fun j hj => .inl (by cases hj; rfl))
  refine { gr := h.gr.comp K (fun j hj q => by have := h.wb; omega), own := o, has := fun x => ?_, ln := ?_, pb := h.pb, wp := h.wp, wb := h.wb }
  · by_cases e : x = (l i).id
    · subst e
      exact ⟨fun _ => ⟨i, by omega, rfl⟩, fun _ => has_put_same h.own.isMap (show WideAt.IsKeyLit (Lit.int .i64 (l i).id) by trivial) _⟩
    · rw [has_put_other (show (Lit.int .i64 x) ≠ (Lit.int .i64 (l i).id) from fun q => e (by cases q; rfl)), h.has x]
      constructor
      · rintro ⟨j, hj, q⟩; exact ⟨j, by omega, q⟩
      · rintro ⟨j, hj, q⟩
        refine ⟨j, ?_, q⟩
        rcases Nat.lt_or_ge j i with z | z
        · exact z
        · obtain rfl : j = i := by omega
          exact absurd q.symm e
  · rcases h.ln with ⟨a, b⟩ | ⟨g', cap, hp, F, M, a, b, d, e⟩
    · refine .inl ⟨a, ⟨b.bp, (K.cell (p := ⟨pl, 0, none⟩) b.lp h.pb).trans b.c0, (K.cell (p := ⟨pl, 1, none⟩) b.lp h.pb).trans b.c1, fun o => (K.frozen (p := ⟨pl, o, none⟩) b.lp h.pb).trans (b.fz o)⟩⟩
    · exact .inr ⟨g', cap, hp, F, M, a, b.ke K (fun j hj q => by rw [q] at hj; exact e hj), d, e⟩
/-- The id stood there already. -/
theorem Bw.twice (h : Bw w W pl bm l c ea i i D) (ht : twB l i = true) : Bw w W pl bm l c ea (i + 1) (i + 1) D := by
  have hc : cndB l c ea i = false := by unfold cndB; rw [ht]; simp
  have ln := h.ln
  unfold Lz at ln
  rw [← cl_no hc] at ln
  refine { h with own := h.own.mono (by omega), ln := ln, has := fun x => ?_ }
  rw [h.has x]
  constructor
  · rintro ⟨j, hj, q⟩; exact ⟨j, by omega, q⟩
  · rintro ⟨j, hj, q⟩
    rcases Nat.lt_or_ge j i with z | z
    · exact ⟨j, z, q⟩
    · obtain rfl : j = i := by omega
      obtain ⟨j', h1, h2⟩ := twB_iff.1 ht
      exact ⟨j', h1, h2.trans q⟩
/-- It cannot. -/
theorem Bw.not (h : Bw w W pl bm l c ea i (i + 1) D) (hc : cndB l c ea i = false) : Bw w W pl bm l c ea (i + 1) (i + 1) D := by
  have ln := h.ln
  unfold Lz at ln
  rw [← cl_no hc] at ln
  exact { h with ln := ln }
/-- It is put into the line. -/
theorem put_bw (h : Bw w W pl bm l c ea i (i + 1) D) (hc : cndB l c ea i = true) (hi : i < 65536) :
    Calls Try.prog 24 #[.pointer (some ⟨pl, 0, none⟩), V (rkT (l i))] W fun e w' => e = .returned (.tuple #[]) ∧ Bw w w' pl bm l c ea (i + 1) (i + 1) D := by
  rcases h.ln with ⟨a, b⟩ | ⟨g', cap, hp, F, M, a, b, d, e⟩
  · refine (put_first b h.gr.size _).mono ?_
    rintro x w' ⟨rfl, g, cap, hp, F, L, K, ft⟩
    have lz : Lz w w' pl bm l c ea (i + 1) := by
      refine .inr ⟨g, cap, hp, F, upd (fun _ => none) 0 (some (rkT (l i))), ?_, ?_, ?_, fun q => ?_⟩
      · rw [cl_yes hc]; simp
      · rw [cl_yes hc, a]; exact L
      · rw [cl_yes hc, a]; exact (hm_nil (fun j => rkT (l j)) (cndB l c ea)).add hc
      · rcases ft bm q with z | z
        · exact h.pb z.symm
        · have := h.own.lt; omega
    exact ⟨rfl, { h with gr := h.gr.comp K (fun j hj q => by have := h.wp; omega), own := own_keep h.own (K.block bm h.own.lt (Ne.symm h.pb)), ln := lz }⟩
  · have hl := clI_le l c ea i
    refine (put_more b a (by omega) d.out _).mono ?_
    rintro x w' ⟨rfl, F', L, K, ft⟩
    have lz : Lz w w' pl bm l c ea (i + 1) := by
      refine .inr ⟨g', cap, hp, F', upd M (clI l c ea i).length (some (rkT (l i))), ?_, ?_, ?_, fun q => ?_⟩
      · rw [cl_yes hc]; simp
      · rw [cl_yes hc, List.length_append, List.length_singleton]; exact L
      · rw [cl_yes hc]; exact d.add hc
      · rcases ft bm q with z | z
        · exact e z
        · have := h.own.lt; omega
    exact ⟨rfl, { h with gr := h.gr.comp K (fun j hj q => by have := b.lt q; omega), own := own_keep h.own (K.block bm h.own.lt e), ln := lz }⟩
/-- What Best leaves. -/
def IdsP (w : World) (l : List Int) (e : Ending) (w' : World) : Prop := ∃ u, e = .returned u ∧ RowI w' w.heap.size u l ∧ Gr w w'
theorem first_bw {N : Nat} (h : Bw w W pl bm l c ea N N D) (hN : N ≤ 65536) (n : Int) : Calls Try.prog 25 #[.pointer (some ⟨pl, 0, none⟩), .int .i64 n] W fun e w' => IdsP w (bestI l N c n.toNat ea) e w' := by
  have e1 : ∀ (L : List Nat), (L.map fun a => (rkT (l a)).i) = L.map fun a => (l a).id := fun L => List.map_congr_left (fun a _ => rkT_id (l a))
  rcases h.ln with ⟨a, b⟩ | ⟨g', cap, hp, F, M, a, b, d, e⟩
  · refine (first_none b n).mono ?_
    rintro x w' ⟨rfl, k⟩
    have z : bestI l N c n.toNat ea = [] := by
      have h0 : fstI (fun j => rkT (l j)) (cndB l c ea) N = none := by
        cases q : fstI (fun j => rkT (l j)) (cndB l c ea) N with
        | none => rfl
        | some j =>
          obtain ⟨q1, q2⟩ := fstI_in q
          have := (cl_cl l c ea N).all j q1 q2
          rw [a] at this; cases this
      unfold bestI
      cases n.toNat <;> simp [bst, h0]
    rw [z]
    exact ⟨_, rfl, rowI_nil _ _, h.gr.trans k⟩
  · refine (first_some b h.gr.size d (cl_cl l c ea N) (cnd_dis l c ea N) hN n).mono ?_
    rintro x w' ⟨v, rfl, row, k⟩
    rw [e1] at row
    exact ⟨v, rfl, row, h.gr.comp k (fun j hj q => by have := b.lt q; omega)⟩
end
end Go.Proofs.Ytkapejgokcpbiaa
