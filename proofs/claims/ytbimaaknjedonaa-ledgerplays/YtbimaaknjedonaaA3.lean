/- The ledger in memory: its cells, its two maps; contracts of may, weight, limit, all, New. -/
import Derived.Test.YtbimaaknjedonaaA2
import Derived.Maps.OwnSet
import Derived.Maps.OwnOps
import Derived.Maps.RangeWalk
import Derived.StillTailTactics
import Derived.BigQuiet
namespace Go.Proofs.Ytbimaaknjedonaa
open Go.RowKit Go.Lib Go.Maps
set_option linter.unusedVariables false

/-! ### the maps -/
/-- How a task in the map reads. -/
def tkElem (v : Value) : Option (DataW Unit × List MemPlace) :=
  match v with
  | .agg a => match a.toList with
    | [.int .i64 e, .int .i64 p] => some (.agg [.lit (.int .i64 e), .lit (.int .i64 p)], [])
    | _ => none
  | _ => none
theorem tkElem_mk (e p : Int) : tkElem (.agg #[.int .i64 e, .int .i64 p]) = some (.agg [.lit (.int .i64 e), .lit (.int .i64 p)], []) := rfl
theorem tkElem_inv {v : Value} {d : DataW Unit} {ps : List MemPlace} (h : tkElem v = some (d, ps)) : ∃ e p, v = .agg #[.int .i64 e, .int .i64 p] ∧ d = .agg [.lit (.int .i64 e), .lit (.int .i64 p)] := by
  unfold tkElem at h
  split at h
  · rename_i a
    split at h
    · rename_i e p ha
      cases h
      exact ⟨e, p, by rw [← Array.toArray_toList (xs := a), ha], rfl⟩
    · cases h
  · cases h
def tw (e p : Int) : DataW Unit := .agg [.lit (.int .i64 e), .lit (.int .i64 p)]
theorem tw_inj {e p e' p' : Int} (h : tw e p = tw e' p') : e = e' ∧ p = p' := by
  unfold tw at h
  injection h with h
  injection h with h1 h2
  injection h2 with h2 _
  injection h1 with h1
  injection h2 with h2
  injection h1 with _ h1
  injection h2 with _ h2
  exact ⟨h1, h2⟩
theorem lit_ne {x y : Int} (h : x ≠ y) : (Lit.int .i64 x) ≠ (Lit.int .i64 y) := fun e => h (by cases e; rfl)
theorem keyLit (x : Int) : WideAt.IsKeyLit (Lit.int .i64 x) := by trivial

/-- The map of tasks. -/
structure MapT (D : DataW Unit) (L : List Wt) : Prop where
  has : ∀ i : Int, Maps.has D (.int .i64 i) = true ↔ ∃ x ∈ L, x.id = i
  at_ : ∀ x ∈ L, ∀ z, D.atKey (.int .i64 x.id) z = tw x.e x.p
  size : Maps.size D = L.length
/-- The map of periods. -/
structure MapC (D : DataW Unit) (L : List Wt) : Prop where
  has : ∀ q : Int, Maps.has D (.int .i64 q) = true ↔ 0 < cntL q L
  at_ : ∀ q : Int, D.atKey (.int .i64 q) (.lit (.int .i64 0)) = .lit (.int .i64 (cntL q L : Nat))
theorem MapT.start : MapT (.map []) [] := ⟨fun x => by simp [Maps.has], fun x hx => by simp at hx, rfl⟩
theorem MapC.start : MapC (.map []) [] := ⟨fun x => by simp [Maps.has, cntL], fun x => by rw [atKey_of_not_has (by simp [Maps.has])]; rfl⟩
theorem MapT.no {D : DataW Unit} {L : List Wt} (h : MapT D L) {i : Int} (hi : ∀ x ∈ L, x.id ≠ i) : Maps.has D (.int .i64 i) = false := by
  cases c : Maps.has D (.int .i64 i) with
  | false => rfl
  | true => obtain ⟨x, hx, e⟩ := (h.has i).1 c; exact absurd e (hi x hx)
theorem MapT.add {D : DataW Unit} {L : List Wt} (h : MapT D L) (hD : Tidy D) (x : Wt) (hi : ∀ y ∈ L, y.id ≠ x.id) : MapT (D.put (.int .i64 x.id) (tw x.e x.p)) (L ++ [x]) := by
  refine ⟨fun i => ?_, fun y hy z => ?_, ?_⟩
  · by_cases e : i = x.id
    · subst e
      exact ⟨fun _ => ⟨x, by simp, rfl⟩, fun _ => has_put_same hD.isMap (keyLit _) _⟩
    · rw [has_put_other (lit_ne e), h.has i]
      constructor
      · rintro ⟨y, hy, q⟩; exact ⟨y, by simp [hy], q⟩
      · rintro ⟨y, hy, q⟩
        rcases List.mem_append.1 hy with hy | hy
        · exact ⟨y, hy, q⟩
        · simp at hy; subst hy; exact absurd q.symm e
  · rcases List.mem_append.1 hy with hy | hy
    · rw [atKey_put_other (lit_ne (hi y hy)), h.at_ y hy]
    · simp at hy; subst hy; exact atKey_put_same hD.isMap (keyLit _) _ _
  · rw [size_put hD, h.no hi, h.size]; simp
theorem MapT.rem {D : DataW Unit} {L : List Wt} (h : MapT D L) (hD : Tidy D) {x : Wt} (hL : Ids L) (hx : x ∈ L) : MapT (D.del (.int .i64 x.id)) (remL x.id L) := by
  refine ⟨fun i => ?_, fun y hy z => ?_, ?_⟩
  · by_cases e : i = x.id
    · subst e
      rw [has_del_same]
      exact ⟨fun q => (by cases q), fun ⟨y, hy, q⟩ => absurd q (mem_remL.1 hy).2⟩
    · rw [has_del_other (lit_ne e), h.has i]
      constructor
      · rintro ⟨y, hy, q⟩; exact ⟨y, mem_remL.2 ⟨hy, by rw [q]; exact e⟩, q⟩
      · rintro ⟨y, hy, q⟩; exact ⟨y, (mem_remL.1 hy).1, q⟩
  · have := mem_remL.1 hy
    rw [atKey_del_other (lit_ne this.2), h.at_ y this.1]
  · have q := size_del (k := Lit.int .i64 x.id) hD
    rw [(h.has x.id).2 ⟨x, hx, rfl⟩, if_pos rfl, h.size] at q
    have := (rem_step hL hx).2.1
    omega
theorem MapC.turn {D : DataW Unit} {L L' : List Wt} (h : MapC D L) (hD : IsMap D) (q : Int) (hq : 0 < cntL q L') (hn : ∀ z, z ≠ q → cntL z L' = cntL z L) {y : Int} (hy : y = (cntL q L' : Nat)) : MapC (D.put (.int .i64 q) (.lit (.int .i64 y))) L' := by
  subst hy
  refine ⟨fun z => ?_, fun z => ?_⟩
  · by_cases e : z = q
    · subst e
      exact ⟨fun _ => hq, fun _ => has_put_same hD (keyLit _) _⟩
    · rw [has_put_other (lit_ne e), hn z e]; exact h.has z
  · by_cases e : z = q
    · subst e; exact atKey_put_same hD (keyLit _) _ _
    · rw [atKey_put_other (lit_ne e), hn z e]; exact h.at_ z
theorem MapC.out {D : DataW Unit} {L L' : List Wt} (h : MapC D L) (q : Int) (hq : cntL q L' = 0) (hn : ∀ z, z ≠ q → cntL z L' = cntL z L) : MapC (D.del (.int .i64 q)) L' := by
  refine ⟨fun z => ?_, fun z => ?_⟩
  · by_cases e : z = q
    · subst e
      rw [has_del_same, hq]
      exact ⟨fun q => (by cases q), fun q => (by omega)⟩
    · rw [has_del_other (lit_ne e), hn z e]; exact h.has z
  · by_cases e : z = q
    · subst e; rw [atKey_del_same, hq]; rfl
    · rw [atKey_del_other (lit_ne e), hn z e]; exact h.at_ z

theorem law3 : Keyed Try.prog 3 := int_keyed Try.underlying3
theorem zero3 (w : World) : (zeroValue 3).run Try.prog w = .ok (.int .i64 0) w := by kernel_rfl
theorem zero59 (w : World) : (zeroValue 59).run Try.prog w = .ok (.agg #[.int .i64 0, .int .i64 0]) w := by kernel_rfl
section
variable {R : Value → Option (DataW Unit × List MemPlace)} {w w' : World} {b r n cnt : Nat} {D : DataW Unit} {left : Lit → Bool}
theorem own_tight (h : w.ownsMap Try.prog 3 R b n D) : w.ownsMap Try.prog 3 R b (Maps.size D) D := by
  obtain ⟨es, cl, h1, h2, h3, h4⟩ := h
  refine ⟨es, cl, h1, h2, ?_, h4⟩
  rw [h4, Maps.size_eq, length_read]
  exact Nat.le_refl _
theorem own_keep (h : w.ownsMap Try.prog 3 R b n D) (e : w'.heap[b]? = w.heap[b]?) : w'.ownsMap Try.prog 3 R b n D := by
  obtain ⟨es, cl, h1, h2⟩ := h
  exact ⟨es, cl, e.trans h1, h2⟩
theorem ranges_keep (h : w.ranges Try.prog 3 R b r n D left cnt) (e : w'.heap[b]? = w.heap[b]?) (e' : w'.heap[r]? = w.heap[r]?) : w'.ranges Try.prog 3 R b r n D left cnt := by
  obtain ⟨es, clock, since, seen, c0, h1, h2, h3, h4, h5, h6⟩ := h
  exact ⟨es, clock, since, seen, c0, e.trans h1, h2, h3, h4, e'.trans h5, h6⟩
def litInt : Lit → Int
  | .int _ x => x
  | _ => 0
/-- All keys are numbers. -/
theorem own_keys (h : w.ownsMap Try.prog 3 R b n D) : ∃ es, D = .map es ∧ es.Pairwise (fun p q => p.1 ≠ q.1) ∧ ∀ p ∈ es, ∃ x, p.1 = Lit.int .i64 x := by
  obtain ⟨es0, hD, hp, _⟩ := h.entries law3
  refine ⟨es0, hD, hp, fun p hp' => ?_⟩
  obtain ⟨es, cl, h1, F, h3, h4⟩ := h
  rw [hD] at h4
  injection h4 with h4
  rw [h4, mem_sorted] at hp'
  obtain ⟨x, hx, rfl⟩ := List.mem_map.1 hp'
  obtain ⟨y, hy⟩ := F.reads x hx
  have e : WideElems.rg Try.prog 3 R x = y := by unfold WideElems.rg; rw [hy]; rfl
  rw [e]
  obtain ⟨z, _, q, _⟩ := Maps.keyOf_int_inv Try.underlying3 (WideElems.rd_key hy)
  exact ⟨z, q⟩
end
theorem pairwise_map_ne {α β : Type} {f : α → β} : ∀ {l : List α}, (l.Pairwise (fun a b => f a ≠ f b)) → (l.map f).Nodup
  | [], _ => List.Pairwise.nil
  | a :: l, h => by
    have h' := List.pairwise_cons.1 h
    refine List.pairwise_cons.2 ⟨fun y hy => ?_, pairwise_map_ne h'.2⟩
    obtain ⟨z, hz, rfl⟩ := List.mem_map.1 hy
    exact h'.1 z hz
/-- There are no more periods than numbers that may be one. -/
theorem MapC.small {R : Value → Option (DataW Unit × List MemPlace)} {w : World} {b n : Nat} {D : DataW Unit} {L : List Wt} (h : MapC D L) (hm : ∀ x ∈ L, x.May) (ho : w.ownsMap Try.prog 3 R b n D) : Maps.size D ≤ 1048576 := by
  obtain ⟨es, rfl, hp, hk⟩ := own_keys ho
  have hin : ∀ p ∈ es, ∃ x, p.1 = Lit.int .i64 x ∧ 1 ≤ x ∧ x ≤ 1048575 := fun p hp' => by
    obtain ⟨x, e⟩ := hk p hp'
    refine ⟨x, e, ?_⟩
    have : Maps.has (.map es) (.int .i64 x) = true := by
      rw [has_eq]
      exact List.any_eq_true.2 ⟨p, hp', by rw [e]; simp [Lit.sameKey]⟩
    obtain ⟨y, hy, rfl⟩ := cntL_pos.1 ((h.has x).1 this)
    exact ⟨(hm y hy).p0, (hm y hy).p1⟩
  have nd : (es.map (fun p => (litInt p.1).toNat)).Nodup := by
    refine pairwise_map_ne (hp.imp_of_mem ?_)
    intro a b ha hb hne e
    obtain ⟨x, ea, x0, x1⟩ := hin a ha
    obtain ⟨y, eb, y0, y1⟩ := hin b hb
    rw [ea, eb] at e
    simp only [litInt] at e
    exact hne (by rw [ea, eb]; congr 1; omega)
  have sub : (es.map (fun p => (litInt p.1).toNat)) ⊆ List.range 1048576 := by
    intro z hz
    obtain ⟨p, hp', rfl⟩ := List.mem_map.1 hz
    obtain ⟨x, ex, x0, x1⟩ := hin p hp'
    rw [ex]
    simp only [litInt]
    exact List.mem_range.2 (by omega)
  have := nd.length_le_of_subset sub
  rw [List.length_map, List.length_range] at this
  exact this

/-! ### the cells -/
/-- The ledger's own block. -/
structure LM (w : World) (p : Nat) (m1 m2 : Value) (c s0 s1 s2 : Int) : Prop where
  c0 : w.cell? ⟨p, 0, none⟩ = some (.int .i64 c)
  c1 : w.cell? ⟨p, 1, none⟩ = some m1
  c2 : w.cell? ⟨p, 2, none⟩ = some m2
  c3 : w.cell? ⟨p, 3, none⟩ = some (.int .i64 s0)
  c4 : w.cell? ⟨p, 4, none⟩ = some (.int .i64 s1)
  c5 : w.cell? ⟨p, 5, none⟩ = some (.int .i64 s2)
  fz : ∀ o, w.frozen? ⟨p, o, none⟩ = false
theorem LM.keep {w w' : World} {p : Nat} {m1 m2 : Value} {c s0 s1 s2 : Int} (h : LM w p m1 m2 c s0 s1 s2) (e : w'.heap[p]? = w.heap[p]?) : LM w' p m1 m2 c s0 s1 s2 :=
  ⟨(World.cell?_of_block e).trans h.c0, (World.cell?_of_block e).trans h.c1, (World.cell?_of_block e).trans h.c2, (World.cell?_of_block e).trans h.c3, (World.cell?_of_block e).trans h.c4, (World.cell?_of_block e).trans h.c5,
    fun o => (World.frozen?_of_block (a := ⟨p, o, none⟩) e).trans (h.fz o)⟩
theorem LM.lt {w : World} {p : Nat} {m1 m2 : Value} {c s0 s1 s2 : Int} (h : LM w p m1 m2 c s0 s1 s2) : p < w.heap.size := cell_lt h.c0
/-- How many cores that is. -/
def cut (c : Int) : Int := min (max c 1) 64
theorem cut_bd (c : Int) : 1 ≤ cut c ∧ cut c ≤ 64 := by unfold cut; omega

/-! ### leaves -/
theorem ret_bool' {a b : Bool} (h : a = b) : Ending.returned (.bool a) = Ending.returned (.bool b) := by rw [h]
theorem kfz {w w' : World} (h : Gr w w') {a : Addr} (hp : a.block < w.heap.size) {x : Bool} (c : w.frozen? a = x) : w'.frozen? a = x := (h.frozen hp (fun q => q)).trans c
def mayB (e p : Int) : Bool := decide (1 ≤ e ∧ e ≤ p ∧ p ≤ 1048575)
theorem may_any (e p : Int) (w : World) : Calls Try.prog 21 #[.int .i64 e, .int .i64 p] w fun x w' => x = .returned (.bool (mayB e p)) ∧ w' = w := by
  have hv : mayB e p = decide (1 ≤ e ∧ e ≤ p ∧ p ≤ 1048575) := rfl
  have HV := Lib.hid hv
  clear hv
  by_cases h1 : 1 ≤ e
  · by_cases h2 : e ≤ p
    · by_cases h3 : p ≤ 1048575
      · have d1 : decide (1 ≤ e) = true := by simp [h1]
        have d2 : decide (e ≤ p) = true := by simp [h2]
        have d3 : decide (p ≤ 1048575) = true := by simp [h3]
        have HE : Hid (mayB e p = true) := by rw [Hid, HV.out]; simp [h1, h2, h3]
        go_enter Try.func21, Try.ntmps21
        go_wp2
        go_ret
        exact ⟨ret_bool' HE.out.symm, rfl⟩
      · have d1 : decide (1 ≤ e) = true := by simp [h1]
        have d2 : decide (e ≤ p) = true := by simp [h2]
        have d3 : decide (p ≤ 1048575) = false := by simp [h3]
        have HE : Hid (mayB e p = false) := by rw [Hid, HV.out]; simp [h3]
        go_enter Try.func21, Try.ntmps21
        go_wp2
        go_ret
        exact ⟨ret_bool' HE.out.symm, rfl⟩
    · have d1 : decide (1 ≤ e) = true := by simp [h1]
      have d2 : decide (e ≤ p) = false := by simp [h2]
      have HE : Hid (mayB e p = false) := by rw [Hid, HV.out]; simp [h2]
      go_enter Try.func21, Try.ntmps21
      go_wp2
      go_ret
      exact ⟨ret_bool' HE.out.symm, rfl⟩
  · have d1 : decide (1 ≤ e) = false := by simp [h1]
    have HE : Hid (mayB e p = false) := by rw [Hid, HV.out]; simp [h1]
    go_enter Try.func21, Try.ntmps21
    go_wp2
    go_ret
    exact ⟨ret_bool' HE.out.symm, rfl⟩

/-- A box that was laid ahead of a call: what it holds behind the call, and behind one box more. -/
theorem box_cell {w1 : World} {k o : Nat} {v : Value} (h : w1.cell? ⟨k, o, none⟩ = some v) (c : Array Value) (t : TypeId) : (w1.alloc (.cells c t)).cell? ⟨k, o, none⟩ = some v := kcell ((Ke.refl _ w1).alloc _) h
theorem box_fz {w1 : World} {a : Addr} (h : w1.frozen? a = false) (c : Array Value) (t : TypeId) : (w1.alloc (.cells c t)).frozen? a = false := (frozen?_alloc_cells w1 c t a).trans h
theorem weight_any (e p a b : Int) (w : World) (hm : 1 ≤ e ∧ e ≤ p ∧ p ≤ 1048575) (h : Wn e p a b) : Calls Try.prog 24 #[.agg #[.int .i64 e, .int .i64 p]] w fun x w' => x = .returned (.agg #[.int .i64 a, .int .i64 b]) ∧ Gr w w' := by
  have HM := Lib.hid hm
  clear hm
  go_enter Try.func24, Try.ntmps24
  go_wp2_with fail
  refine (ofG e p a b _ HM.out h).mono ?_
  rintro x w1 ⟨rfl, g1⟩
  have s1 := g1.size
  simp at s1
  have q0 := box_cell (show w1.cell? ⟨w.heap.size + 1, 0, none⟩ = some (.int .i64 0) from kcell g1 (by simp [go_sem]))
  have q1 := box_cell (show w1.cell? ⟨w.heap.size + 1, 1, none⟩ = some (.int .i64 0) from kcell g1 (by simp [go_sem]))
  have f0 := box_fz (show w1.frozen? ⟨w.heap.size + 1, 0, none⟩ = false from kfz g1 (by simp) (by simp [go_sem]))
  have f1 := box_fz (show w1.frozen? ⟨w.heap.size + 1, 1, none⟩ = false from kfz g1 (by simp) (by simp [go_sem]))
  have n2 : ¬ w1.heap.size = w.heap.size + 1 := by omega
  have K : Hid (Gr w w1) := (((Ke.refl _ w).alloc _).alloc _).gr g1
  clear g1
  go_wp2
  refine bodyPost_ret (v := .agg #[.int .i64 a, .int .i64 b]) (by simp [results, Try.results24, go_sem, q0, q1]) rfl ⟨rfl, ?_⟩
  have z := K.out.size
  exact ((K.out.alloc _).set (.inr (by simp)) _).set (.inr (by simp)) _
end Go.Proofs.Ytbimaaknjedonaa
