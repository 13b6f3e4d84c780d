/- The document's own seats: Sit, walked. -/
import Derived.Test.YtnmdidglfegdcaaDoorG4
import Derived.Deep.QuietTactic
import Derived.Lib.AppendZerosOnto
namespace Go.Proofs.YtnmdidglfegdcaaDoor
open Go.RowKit Go.Lib Go.Maps
set_option linter.unusedVariables false
set_option maxRecDepth 100000
set_option maxHeartbeats 4000000

theorem info4 : ∃ i, Tryd.prog.info? 4 = some i ∧ i.size = 1 ∧ i.bytes = 1 ∧ i.zero = some (.bool false) := by
  have h1 : (Tryd.prog.info? 4).map (·.size) = some 1 := by kernel_rfl
  have h2 : (Tryd.prog.info? 4).map (·.bytes) = some 1 := by kernel_rfl
  have h3 : (Tryd.prog.info? 4).map (·.zero) = some (some (.bool false)) := by kernel_rfl
  cases h : Tryd.prog.info? 4 with
  | none => rw [h] at h1; cases h1
  | some i =>
    rw [h] at h1 h2 h3
    exact ⟨i, rfl, by simpa using h1, by simpa using h2, by simpa using h3⟩
theorem made_bools (c : Nat) : madeCells (Value.cells (.bool false)) c = Array.replicate c (.bool false) := by
  refine Array.ext (by simp [madeCells]) fun i h1 h2 => ?_
  simp [madeCells, Value.cells, Nat.mod_one]
theorem make55 (n : Nat) (hc : n ≤ 1000000) (w : World) : (Instr.makeSlice 55 (.int .i64 (n : Int)) (.int .i64 (n : Int))).run Tryd.prog w = .ok (.slice (some ⟨w.heap.size, 0, none⟩) n n) (w.alloc (.cells (Array.replicate n (.bool false)) 4)) := by
  obtain ⟨i, hi, h1, h2, h3⟩ := info4
  have h := run_make w 55 4 i _ Tryd.underlying55 hi h3 .i64 .i64 n n (by omega) (by omega) (by rw [h2]; omega) (by omega)
  rw [h1, Int.toNat_natCast, Nat.mul_one, made_bools] at h
  exact h
theorem rowB_made (w : World) (n : Nat) (hc : n ≤ 1000000) : Row (w.alloc (.cells (Array.replicate n (.bool false)) 4)) w.heap.size 4 1 (.slice (some ⟨w.heap.size, 0, none⟩) n n) n (fun _ => .bool false) := by
  have blk : (w.alloc (.cells (Array.replicate n (.bool false)) 4)).heap[w.heap.size]? = some (.cells (Array.replicate n (.bool false)) 4 (0, 0)) := heap_alloc_new w _
  refine ⟨by simp, .inr ⟨w.heap.size, n, _, rfl, Nat.le_refl _, blk, Nat.le_refl _, by unfold maxLen; omega, by simp, ?_⟩⟩
  refine List.ext_getElem (by simp) fun j h1 h2 => by simp

/-- The two rows of a Sit on its way: cores at block gc, what is taken at block gt. -/
structure Cm (w W : World) (gc gt m k : Nat) (f : Nat → Int) (T : Nat → Bool) : Prop where
  core : Row W w.heap.size 3 1 (.slice (some ⟨gc, 0, none⟩) m m) m (fun j => .int .i64 (f j))
  tk : Row W w.heap.size 4 1 (.slice (some ⟨gt, 0, none⟩) k k) k (fun c => .bool (T c))
  gr : Gr w W
  cl : w.heap.size ≤ gc
  tl : w.heap.size ≤ gt
  ne : gc ≠ gt
section
variable {w W W' : World} {gc gt m k : Nat} {f f' : Nat → Int} {T T' : Nat → Bool}
theorem Cm.congr (h : Cm w W gc gt m k f T) (h1 : ∀ j, j < m → f' j = f j) (h2 : ∀ c, c < k → T' c = T c) : Cm w W gc gt m k f' T' :=
  ⟨h.core.congr (fun j hj => by rw [h1 j (by omega)]), h.tk.congr (fun j hj => by rw [h2 j (by omega)]), h.gr, h.cl, h.tl, h.ne⟩
theorem Cm.next (h : Cm w W gc gt m k f T) (g : Gr W W') : Cm w W' gc gt m k f T :=
  ⟨h.core.keep (fun j hj => g.block j (Row.lt h.core hj).2 (fun q => q)), h.tk.keep (fun j hj => g.block j (Row.lt h.tk hj).2 (fun q => q)), h.gr.trans g, h.cl, h.tl, h.ne⟩
theorem Cm.set (h : Cm w W gc gt m k f T) (i : Nat) (x : Int) : Cm w (W.setCell ⟨gc, i, none⟩ (.int .i64 x)) gc gt m k (upd f i x) T := by
  refine ⟨(h.core.set i (.int .i64 x)).congr (fun j hj => ?_), h.tk.keep (fun j hj => blk_other W gc i _ j (fun e => by cases hj; exact h.ne e.symm)), h.gr.set (p := ⟨gc, i, none⟩) (.inr h.cl) _, h.cl, h.tl, h.ne⟩
  by_cases e : j = i
  · subst e; rw [upd_same, upd_same]
  · rw [upd_other _ _ e, upd_other _ _ e]
theorem Cm.setT (h : Cm w W gc gt m k f T) (c : Nat) : Cm w (W.setCell ⟨gt, c, none⟩ (.bool true)) gc gt m k f (upd T c true) := by
  refine ⟨h.core.keep (fun j hj => blk_other W gt c _ j (fun e => by cases hj; exact h.ne e)), (h.tk.set c (.bool true)).congr (fun j hj => ?_), h.gr.set (p := ⟨gt, c, none⟩) (.inr h.tl) _, h.cl, h.tl, h.ne⟩
  by_cases e : j = c
  · subst e; rw [upd_same, upd_same]
  · rw [upd_other _ _ e, upd_other _ _ e]
theorem Cm.drew (h : Cm w W gc gt m k f T) : Cm w W.drew gc gt m k f T := h.next (Ke.refl _ W).drew
theorem Cm.cc (h : Cm w W gc gt m k f T) {j : Nat} (hj : j < m) : W.cell? ⟨gc, j, none⟩ = some (.int .i64 (f j)) := h.core.cell j (by omega)
theorem Cm.ct (h : Cm w W gc gt m k f T) {c : Nat} (hc : c < k) : W.cell? ⟨gt, c, none⟩ = some (.bool (T c)) := h.tk.cell c (by omega)
theorem Cm.zc (h : Cm w W gc gt m k f T) (j : Nat) : W.frozen? ⟨gc, j, none⟩ = false := h.core.frozen j
theorem Cm.zt (h : Cm w W gc gt m k f T) (c : Nat) : W.frozen? ⟨gt, c, none⟩ = false := h.tk.frozen c
end
theorem cm_made (w W : World) (g : Gr w W) (m k : Nat) (hm : m ≤ 1000) (hk : k ≤ 1000) : Cm w ((W.alloc (.cells (Array.replicate m (.int .i64 0)) 3)).alloc (.cells (Array.replicate k (.bool false)) 4)) W.heap.size (W.heap.size + 1) m k (fun _ => 0) (start k).T := by
  have r1 := row_made W m (by omega)
  have r2 := rowB_made (W.alloc (.cells (Array.replicate m (.int .i64 0)) 3)) k (by omega)
  have e : (W.alloc (.cells (Array.replicate m (.int .i64 0)) 3)).heap.size = W.heap.size + 1 := by simp
  rw [e] at r2
  have hs := g.size
  refine ⟨?_, ?_, (g.alloc _).alloc _, hs, by omega, by omega⟩
  · exact Row.low (r1.keep (fun j hj => by cases hj; exact Below.heap_alloc _ _ _ (by simp))) hs
  · refine Row.low (r2.congr (fun c hc => ?_)) (by omega)
    show Value.bool (decide (k ≤ c)) = _
    rw [decide_eq_false (by omega)]
/-- What Sit of the document leaves. -/
def RefQ (w : World) (base p k : Nat) (v : Value) (S : List Sa) (l : List Int) (e : Ending) (w' : World) : Prop :=
  ∃ u, e = .returned (.tuple #[u, .int .i64 (sitE k l)]) ∧ RowI w' w.heap.size u (sitR k (fA S) (fN S) l) ∧ ∃ v' S', Rf w' base p k v' S' ∧ Dis S' ∧ fA S' = sitA k (fA S) (fN S) l ∧ fN S' = sitN k (fA S) (fN S) l ∧ S'.length ≤ S.length + l.length ∧ Ke (fun j => j = p ∨ v.ownBlock = some j) w w'
theorem sit_rf_full {w : World} {base p k : Nat} {v vi : Value} {S : List Sa} {l : List Int} (h : Rf w base p k v S) (hS : Dis S) (hv : IdIn w vi l) (hl : k < l.length) (hl2 : l.length ≤ 9223372036854775807) : Calls Tryd.prog 13 #[.pointer (some ⟨p, 0, none⟩), vi] w fun e w' => RefQ w base p k v S l e w' := by
  have hz : sitE k l = 6 := by unfold sitE; rw [if_pos hl]
  have hne : sitE k l ≠ 0 := by rw [hz]; omega
  have fin : Hid (∀ w', Gr w w' → RefQ w base p k v S l (.returned (.tuple #[.slice none 0 0, .int .i64 6])) w') := fun w' g => by
    refine ⟨_, by rw [hz], ?_, v, S, h.gr g, hS, ?_, ?_, by omega, g.of_gr⟩
    · rw [sitR_none hne]; exact rowI_nil _ _
    · unfold sitA; rw [if_neg hne]
    · unfold sitN; rw [if_neg hne]
  have c0 := h.c0
  obtain ⟨a, c, rfl, _⟩ := hv
  have hlz : (k : Int) < (l.length : Int) := by omega
  clear h hz hne
  go_enter Tryd.func13, Tryd.ntmps13
  go_wp2_with fail
  go_ret2
  exact fin.out _ (Ke.refl _ _)
/-- The first i sit no more. -/
def offT (S : List Sa) (i : Nat) : List Sa := S.mapIdx fun j y => if j < i then ⟨y.id, y.c, false⟩ else y
theorem offT_length (S : List Sa) (i : Nat) : (offT S i).length = S.length := by simp [offT]
theorem offT_zero (S : List Sa) : offT S 0 = S := by
  unfold offT
  refine List.ext_getElem (by simp) fun j h1 h2 => by simp
theorem offT_all (S : List Sa) : offT S S.length = offS S := by
  unfold offT offS
  refine List.ext_getElem (by simp) fun j h1 h2 => ?_
  have : j < S.length := by simpa using h2
  simp [this]
theorem offT_getD {S : List Sa} {i j : Nat} (hj : j < S.length) : (offT S i).getD j zeroS = if j < i then ⟨(S.getD j zeroS).id, (S.getD j zeroS).c, false⟩ else S.getD j zeroS := by
  unfold offT
  simp only [List.getD_eq_getElem?_getD, List.getElem?_mapIdx, List.getElem?_eq_getElem hj, Option.map_some, Option.getD_some]
theorem Rf.off {w : World} {base p k g cap : Nat} {S : List Sa} {i : Nat} (h : Rf w base p k (.slice (some ⟨g, 0, none⟩) S.length cap) (offT S i)) (hi : i < S.length) : Rf (w.setCell ⟨g, i * 3 + 2, none⟩ (.bool false)) base p k (.slice (some ⟨g, 0, none⟩) S.length cap) (offT S (i + 1)) := by
  have hgp : g ≠ p := fun e => h.vp (by rw [e]; rfl)
  have r := h.row
  rw [offT_length] at r
  refine ⟨h.bp, ?_, ?_, fun o => by simpa using h.fz o, ?_, h.vp, by rw [offT_length]; have := h.ln; rw [offT_length] at this; exact this⟩
  · rw [World.cell?_setCell_other _ _ _ _ (fun e => by cases e)]; exact h.c0
  · rw [World.cell?_setCell_other _ _ _ _ (fun e => by cases e)]; exact h.c1
  · rw [offT_length]
    refine (r.set (i * 3 + 2) (.bool false)).congr fun j hj => ?_
    have hj3 : j / 3 < S.length := by omega
    unfold tc
    show fld ((offT S (i + 1)).getD (j / 3) zeroS) (j % 3) = _
    rw [offT_getD hj3]
    by_cases e : j = i * 3 + 2
    · subst e
      rw [upd_same, show (i * 3 + 2) / 3 = i by omega, show (i * 3 + 2) % 3 = 2 by omega, if_pos (by omega)]
      rfl
    · rw [upd_other _ _ e]
      show _ = fld ((offT S i).getD (j / 3) zeroS) (j % 3)
      rw [offT_getD hj3]
      by_cases q : j / 3 = i
      · rw [if_pos (by omega), if_neg (by omega)]
        have h2 : j % 3 = 0 ∨ j % 3 = 1 := by omega
        rcases h2 with h2 | h2 <;> rw [h2] <;> rfl
      · by_cases q2 : j / 3 < i
        · rw [if_pos (by omega), if_pos q2]
        · rw [if_neg (by omega), if_neg q2]
theorem nd_ne {l : List Int} (h : l.Nodup) {i j : Nat} (hi : i < l.length) (hj : j < l.length) (e : i ≠ j) : l.getD i 0 ≠ l.getD j 0 := by
  simp only [List.getD_eq_getElem?_getD, List.getElem?_eq_getElem hi, List.getElem?_eq_getElem hj, Option.getD_some]
  rcases Nat.lt_trichotomy i j with q | q | q
  · exact (List.pairwise_iff_getElem.1 h) i j hi hj q
  · exact absurd q e
  · exact Ne.symm ((List.pairwise_iff_getElem.1 h) j i hj hi q)
theorem refq_twice {w w' : World} {base p k : Nat} {v : Value} {S : List Sa} {l : List Int} (h : Rf w base p k v S) (hS : Dis S) (hl : ¬ k < l.length) (hd : ¬ l.Nodup) (g : Gr w w') : RefQ w base p k v S l (.returned (.tuple #[.slice none 0 0, .int .i64 2])) w' := by
  have hz : sitE k l = 2 := by unfold sitE; rw [if_neg hl, if_neg hd]
  have hne : sitE k l ≠ 0 := by rw [hz]; omega
  refine ⟨_, by rw [hz], ?_, v, S, h.gr g, hS, ?_, ?_, by omega, g.of_gr⟩
  · rw [sitR_none hne]; exact rowI_nil _ _
  · unfold sitA; rw [if_neg hne]
  · unfold sitN; rw [if_neg hne]
/-- Behind one more that is put: what the last loop holds. -/
structure Lo (w w6 W : World) (base p k gc m : Nat) (v vv : Value) (SS : List Sa) (sF : Sg) (l : List Int) : Prop where
  rf : Rf W base p k vv SS
  ke : Ke (fun j => j = p ∨ v.ownBlock = some j) w W
  ob : ∀ j, vv.ownBlock = some j → v.ownBlock = some j ∨ w6.heap.size ≤ j
  core : Row W w.heap.size 3 1 (.slice (some ⟨gc, 0, none⟩) m m) m (fun j => .int .i64 (cg sF (l.getD j 0)))
  sz : w6.heap.size ≤ W.heap.size
theorem lo_step {w w6 wr w7 X X1 : World} {base p k gc m cx : Nat} {v vv v7 v8 : Value} {S SS : List Sa} {sF : Sg} {l : List Int} {x : Int} (h : Lo w w6 wr base p k gc m v vv SS sF l) (hv : ∀ j, v.ownBlock = some j → j < w.heap.size) (hp : p < w.heap.size) (h6 : w.heap.size ≤ w6.heap.size) (hg6 : gc < w6.heap.size) (hgw : w.heap.size ≤ gc)
    (rf7 : Rf w7 base p k v7 S) (k7 : Ke (fun j => j = p) wr w7) (ob7 : ∀ j, v7.ownBlock = some j → vv.ownBlock = some j ∨ wr.heap.size ≤ j) (g : Gr w7 X) (q : ApP X base v7 (S ++ [⟨x, cx, true⟩]) v8 X1) (hl : S.length + 1 ≤ 20000) : Lo w w6 (X1.setCell ⟨p, 1, none⟩ v8) base p k gc m v v8 (S ++ [⟨x, cx, true⟩]) sF l := by
  obtain ⟨r1, r2, r3⟩ := Rf.app rf7 g q hl
  have s1 := k7.size
  have s2 := h.sz
  have s3 := r2.size
  have s4 := h.ke.size
  have ob2 : ∀ j, v7.ownBlock = some j → v.ownBlock = some j ∨ w6.heap.size ≤ j := fun j hj => by
    rcases ob7 j hj with z | z
    · exact h.ob j z
    · exact .inr (by omega)
  refine ⟨r1, ?_, fun j hj => ?_, ?_, by omega⟩
  · have kw : Ke (fun j => j = p ∨ v.ownBlock = some j) w w7 := h.ke.trans (k7.mono (fun j _ z => .inl z))
    refine ⟨r2.os.trans kw.os, r2.tape.trans kw.tape, r2.output.trans kw.output, by omega, fun j hj hn => (r2.block j (by omega) (fun z => ?_)).trans (kw.block j hj hn)⟩
    rcases z with z | z
    · exact hn (.inl z)
    · rcases ob2 j z with y | y
      · exact hn (.inr y)
      · omega
  · rcases r3 j hj with z | z
    · exact ob2 j z
    · exact .inr (by omega)
  · have c7 : Row w7 w.heap.size 3 1 (.slice (some ⟨gc, 0, none⟩) m m) m (fun j => .int .i64 (cg sF (l.getD j 0))) := h.core.keep (fun g hg => by
      cases hg
      refine k7.block gc (Row.lt h.core (g := gc) rfl).2 (fun z => ?_)
      have z' : gc = p := z
      omega)
    refine c7.keep (fun g hg => ?_)
    cases hg
    refine r2.block gc (Row.lt c7 (g := gc) rfl).2 (fun z => ?_)
    rcases z with z | z
    · omega
    · rcases ob2 gc z with y | y
      · have := hv gc y; omega
      · omega
theorem refq_ok {w w6 W : World} {base p k gc m : Nat} {v vv : Value} {S : List Sa} {l : List Int} {sF : Sg} (hs : sF = sit k (fA S) (fN S) (rise l)) (hm : m = l.length) (hl : l.length ≤ k) (hk : k ≤ 64) (hd : l.Nodup) (hS : Dis S) (ok : Ok k (fA S) (fN S)) (h : Lo w w6 W base p k gc m v vv (finS (offS S) (fun x => (sF.G x).getD 0) l) sF l) :
    RefQ w base p k v S l (.returned (.tuple #[.slice (some ⟨gc, 0, none⟩) m m, .int .i64 0])) W := by
  subst hm
  have hz : sitE k l = 0 := sitE_zero.2 ⟨hl, hd⟩
  have hall : ∀ x ∈ l, ∃ c, sF.G x = some c := fun x hx => by
    have := sit_all (k := k) (A := fA S) (N := fN S) ((rise_mem l x).2 hx)
    rw [← hs] at this
    cases e : sF.G x with
    | none => exact absurd e this
    | some c => exact ⟨c, rfl⟩
  have hmem : ∀ x, x ∈ l ↔ sF.G x ≠ none := fun x => ⟨fun hx => by obtain ⟨c, e⟩ := hall x hx; rw [e]; simp, fun hx => Classical.byContradiction fun q => by
    rw [hs] at hx
    exact hx (sit_out ok hk (by rw [rise_length]; exact hl) (fun z => q ((rise_mem l x).1 z)))⟩
  obtain ⟨f1, f2⟩ := fin_sit (l := l) (s := sF) hS hmem
  refine ⟨_, by rw [hz], ?_, vv, _, h.rf, fin_dis hS.off, ?_, ?_, ?_, h.ke⟩
  · have hlen : (sitR k (fA S) (fN S) l).length = l.length := sitR_length hz
    show Row W w.heap.size 3 1 _ _ _
    rw [hlen]
    refine h.core.congr fun j hj => ?_
    have hj' : j < l.length := by omega
    obtain ⟨c, e⟩ := hall _ (getD_mem' hj')
    show Value.int .i64 _ = Value.int .i64 _
    rw [cg_some e]
    unfold sitR sitL
    rw [if_pos hz, ← hs]
    simp only [List.getD_eq_getElem?_getD, List.getElem?_map, List.getElem?_eq_getElem hj', Option.map_some, Option.getD_some] at e ⊢
    rw [e]
    rfl
  · rw [f1]; unfold sitA; rw [if_pos hz, hs]
  · rw [f2]; unfold sitN; rw [if_pos hz, hs]
  · have h1 := fin_len (C := fun x => (sF.G x).getD 0) (l := l) (S := offS S)
    have h2 : (offS S).length = S.length := by simp [offS]
    omega
end Go.Proofs.YtnmdidglfegdcaaDoor
