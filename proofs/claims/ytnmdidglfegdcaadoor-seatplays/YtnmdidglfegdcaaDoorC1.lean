/- Seats in memory: the map of seats; contracts of has, least, take. -/
import Derived.Test.YtnmdidglfegdcaaDoorB1
import Derived.Maps.RangeWalk
namespace Go.Proofs.YtnmdidglfegdcaaDoor
open Go.RowKit Go.Lib Go.Maps
set_option linter.unusedVariables false
set_option maxRecDepth 100000
set_option maxHeartbeats 2000000

/-! ### the map -/
/-- How a seat in the map reads. -/
def tkElem (v : Value) : Option (DataW Unit × List MemPlace) :=
  match v with
  | .agg a => match a.toList with
    | [.int .i64 e, .int .i64 p] => some (.agg [.lit (.int .i64 e), .lit (.int .i64 p)], [])
    | _ => none
  | _ => none
theorem tkElem_mk (e p : Int) : tkElem (.agg #[.int .i64 e, .int .i64 p]) = some (.agg [.lit (.int .i64 e), .lit (.int .i64 p)], []) := rfl
theorem tkElem_inv {v : Value} {d : DataW Unit} {ps : List MemPlace} (h : tkElem v = some (d, ps)) : ∃ e p, v = .agg #[.int .i64 e, .int .i64 p] ∧ d = .agg [.lit (.int .i64 e), .lit (.int .i64 p)] := by
  unfold tkElem at h
  split at h
  · rename_i a
    split at h
    · rename_i e p ha
      cases h
      exact ⟨e, p, by rw [← Array.toArray_toList (xs := a), ha], rfl⟩
    · cases h
  · cases h
def tw (e p : Int) : DataW Unit := .agg [.lit (.int .i64 e), .lit (.int .i64 p)]
theorem tw_inj {e p e' p' : Int} (h : tw e p = tw e' p') : e = e' ∧ p = p' := by
  unfold tw at h
  injection h with h
  injection h with h1 h2
  injection h2 with h2 _
  injection h1 with h1
  injection h2 with h2
  injection h1 with _ h1
  injection h2 with _ h2
  exact ⟨h1, h2⟩
/-- A seat as it reads: core and turn, noughts for none. -/
def st0 (o : Option (Nat × Nat)) : Nat := match o with
  | some q => q.1
  | none => 0
def st1 (o : Option (Nat × Nat)) : Nat := match o with
  | some q => q.2
  | none => 0
structure MapS (D : DataW Unit) (H : Int → Option (Nat × Nat)) : Prop where
  has : ∀ i : Int, Maps.has D (.int .i64 i) = (H i).isSome
  at_ : ∀ i : Int, D.atKey (.int .i64 i) (tw 0 0) = tw (st0 (H i)) (st1 (H i))
theorem MapS.start : MapS (.map []) (fun _ => none) := ⟨fun x => by simp [Maps.has], fun x => by rw [atKey_of_not_has (by simp [Maps.has])]; rfl⟩
theorem MapS.put {D : DataW Unit} {H : Int → Option (Nat × Nat)} (h : MapS D H) (hD : IsMap D) (x : Int) (c t : Nat) : MapS (D.put (.int .i64 x) (tw c t)) (up H x (some (c, t))) := by
  refine ⟨fun i => ?_, fun i => ?_⟩
  · by_cases e : i = x
    · subst e; rw [up_same, has_put_same hD (keyLit _)]; rfl
    · rw [up_other _ _ e, has_put_other (lit_ne e), h.has i]
  · by_cases e : i = x
    · subst e; rw [up_same, atKey_put_same hD (keyLit _)]; rfl
    · rw [up_other _ _ e, atKey_put_other (lit_ne e), h.at_ i]
theorem MapS.del {D : DataW Unit} {H : Int → Option (Nat × Nat)} (h : MapS D H) (x : Int) : MapS (D.del (.int .i64 x)) (up H x none) := by
  refine ⟨fun i => ?_, fun i => ?_⟩
  · by_cases e : i = x
    · subst e; rw [up_same, has_del_same]; rfl
    · rw [up_other _ _ e, has_del_other (lit_ne e), h.has i]
  · by_cases e : i = x
    · subst e; rw [up_same, atKey_del_same]; rfl
    · rw [up_other _ _ e, atKey_del_other (lit_ne e), h.at_ i]
theorem zero54 (w : World) : (zeroValue 54).run Tryd.prog w = .ok (.agg #[.int .i64 0, .int .i64 0]) w := by kernel_rfl
section
variable {R : Value → Option (DataW Unit × List MemPlace)} {w w' : World} {b r n cnt : Nat} {D : DataW Unit}
theorem own_tight (h : w.ownsMap Tryd.prog 3 R b n D) : w.ownsMap Tryd.prog 3 R b (Maps.size D) D := by
  obtain ⟨es, cl, h1, h2, h3, h4⟩ := h
  refine ⟨es, cl, h1, h2, ?_, h4⟩
  rw [h4, Maps.size_eq, length_read]
  exact Nat.le_refl _
theorem own_keep (h : w.ownsMap Tryd.prog 3 R b n D) (e : w'.heap[b]? = w.heap[b]?) : w'.ownsMap Tryd.prog 3 R b n D := by
  obtain ⟨es, cl, h1, h2⟩ := h
  exact ⟨es, cl, e.trans h1, h2⟩
end
/-- The map at block bm, of at most n seats. -/
def OwnS (w : World) (bm n : Nat) (H : Int → Option (Nat × Nat)) : Prop := ∃ D, w.ownsMap Tryd.prog 3 tkElem bm (Maps.size D) D ∧ MapS D H ∧ Maps.size D ≤ n
theorem OwnS.keep {w w' : World} {bm n : Nat} {H : Int → Option (Nat × Nat)} (h : OwnS w bm n H) (e : w'.heap[bm]? = w.heap[bm]?) : OwnS w' bm n H := by
  obtain ⟨D, a, b⟩ := h
  exact ⟨D, own_keep a e, b⟩
theorem OwnS.lt {w : World} {bm n : Nat} {H : Int → Option (Nat × Nat)} (h : OwnS w bm n H) : bm < w.heap.size := by
  obtain ⟨D, a, b⟩ := h
  exact a.lt
/-- Asked for one. -/
theorem OwnS.look {w : World} {bm n : Nat} {H : Int → Option (Nat × Nat)} (h : OwnS w bm n H) (x : Int) (hx : (Lit.int .i64 x).wf = true) : (Instr.lookup 47 (.map (some bm)) (.int .i64 x) false).run Tryd.prog w = .ok (.agg #[.int .i64 (st0 (H x) : Nat), .int .i64 (st1 (H x) : Nat)]) w := by
  obtain ⟨D, a, m, _⟩ := h
  obtain ⟨v, ps, hrun, hv⟩ := a.lookup law3 Tryd.underlying47 (zero54 w) (tkElem_mk 0 0) (keyOf_int_mk Tryd.underlying3 hx)
  obtain ⟨e', p', rfl, hd⟩ := tkElem_inv hv
  obtain ⟨rfl, rfl⟩ : (st0 (H x) : Int) = e' ∧ (st1 (H x) : Int) = p' := tw_inj ((m.at_ x).symm.trans hd)
  exact hrun
theorem field54 (a b : Int) (w : World) : (Instr.field 54 (.agg #[.int .i64 a, .int .i64 b]) 1).run Tryd.prog w = .ok (.int .i64 b) w := by kernel_rfl
theorem field540 (a b : Int) (w : World) : (Instr.field 54 (.agg #[.int .i64 a, .int .i64 b]) 0).run Tryd.prog w = .ok (.int .i64 a) w := by kernel_rfl

/-! ### single cores -/
theorem shr_and (f c : Nat) (hf : f < 18446744073709551616) : (bits BinOp.and IntKind.u64 ((f : Int) / 2 ^ c) 1 == 1) = f.testBit c := by
  have e : (f : Int) / 2 ^ c = ((f / 2 ^ c : Nat) : Int) := by simp
  have hle : f / 2 ^ c < 18446744073709551616 := Nat.lt_of_le_of_lt (Nat.div_le_self _ _) hf
  have h := bits_and_u64_nat (f / 2 ^ c) 1 hle (by omega)
  rw [e, show (1 : Int) = ((1 : Nat) : Int) from rfl, h, Nat.and_one_is_mod, Nat.testBit_eq_decide_div_mod_eq]
  generalize f / 2 ^ c = q
  rcases Nat.mod_two_eq_zero_or_one q with z | z <;> simp [z]
theorem has_any (f c : Nat) (hf : f < 18446744073709551616) (hc : c < 64) (w : World) : Calls Tryd.prog 25 #[.int .u64 f, .int .i64 c] w fun e w' => e = .returned (.bool (f.testBit c)) ∧ w' = w := by
  have h0 : ¬ (c : Int) < 0 := by omega
  have h1 : (c : Int) < 64 := by omega
  have HE := Lib.hid (shr_and f c hf)
  clear hf
  go_enter Tryd.func25, Tryd.ntmps25
  go_wp2
  go_ret
  exact ⟨ret_bool' HE.out, rfl⟩
theorem least_any (f : Nat) (hf : f < 18446744073709551616) (h0 : f ≠ 0) (w : World) (hT : Tab w) : Calls Tryd.prog 26 #[.int .u64 f] w fun e w' => e = .returned (.int .i64 (Lib.ctz 64 f)) ∧ w' = w := by
  have C := Lib.hid (ctz_any f hf h0 w hT)
  go_enter Tryd.func26, Tryd.ntmps26
  go_wp2_with (go_at_call 38; refine C.out.mono ?_; rintro e w' ⟨rfl, rfl⟩)
  go_ret
  exact ⟨rfl, rfl⟩

/-! ### take -/
/-- The cells of seats at block p: k cores, the turn t. -/
structure Cs (w : World) (p bm k t : Nat) : Prop where
  c0 : w.cell? ⟨p, 0, none⟩ = some (.int .i64 k)
  c1 : w.cell? ⟨p, 1, none⟩ = some (.int .i64 t)
  c2 : w.cell? ⟨p, 2, none⟩ = some (.map (some bm))
  fz : ∀ o, w.frozen? ⟨p, o, none⟩ = false
theorem Cs.keep {w w' : World} {p bm k t : Nat} (h : Cs w p bm k t) (e : w'.heap[p]? = w.heap[p]?) : Cs w' p bm k t :=
  ⟨(World.cell?_of_block e).trans h.c0, (World.cell?_of_block e).trans h.c1, (World.cell?_of_block e).trans h.c2, fun o => (World.frozen?_of_block (a := ⟨p, o, none⟩) e).trans (h.fz o)⟩
theorem Cs.lt {w : World} {p bm k t : Nat} (h : Cs w p bm k t) : p < w.heap.size := lt_of_cell h.c0
/-- The box of free cores. -/
structure Fr (w : World) (B f : Nat) : Prop where
  c : w.cell? ⟨B, 0, none⟩ = some (.int .u64 f)
  z : w.frozen? ⟨B, 0, none⟩ = false
theorem Fr.keep {w w' : World} {B f : Nat} (h : Fr w B f) (e : w'.heap[B]? = w.heap[B]?) : Fr w' B f :=
  ⟨(World.cell?_of_block e).trans h.c, (World.frozen?_of_block (a := ⟨B, 0, none⟩) e).trans h.z⟩
/-- A core less. -/
def less (f c : Nat) : Nat := f &&& (18446744073709551615 ^^^ 2 ^ c)
theorem less_lt {f c : Nat} (hf : f < 18446744073709551616) : less f c < 18446744073709551616 := and_lt hf
theorem less_bit {f c j : Nat} (hj : j < 64) : (less f c).testBit j = (f.testBit j && !decide (c = j)) := by
  unfold less
  rw [Nat.testBit_and, testBit_not hj, testBit_one_shift]
theorem turned_ke {F : Nat → Prop} {w w' : World} {b : Nat} (h : w.mapTurned w' b) (hF : F b) : Ke F w w' := (Ke.refl F w).grown h.grown (fun k hk => by cases hk; exact .inl hF)
theorem turned_block {w w' : World} {b : Nat} (h : w.mapTurned w' b) {g : Nat} (hg : g < w.heap.size) (hne : g ≠ b) : w'.heap[g]? = w.heap[g]? := h.grown.block g hg (fun e => hne (by cases e; rfl))
theorem take_any {w : World} {p bm k t B f n : Nat} {H : Int → Option (Nat × Nat)} (hc : Cs w p bm k t) (hb : Fr w B f) (ho : OwnS w bm n H) (n1 : p ≠ bm) (n2 : p ≠ B) (n3 : bm ≠ B) (hf : f < 18446744073709551616) (x : Int) (hx : (Lit.int .i64 x).wf = true) (c : Nat) (hcc : c < 64) (hn : n ≤ 1000000) :
    Calls Tryd.prog 24 #[.pointer (some ⟨p, 0, none⟩), .int .i64 x, .int .i64 c, .pointer (some ⟨B, 0, none⟩)] w fun e w' => e = .returned (.tuple #[]) ∧ Cs w' p bm k t ∧ Fr w' B (less f c) ∧ OwnS w' bm (n + 1) (up H x (some (c, t))) ∧ Ke (fun j => j = bm ∨ j = B) w w' := by
  obtain ⟨D, own, map, hs⟩ := ho
  have h0 : ¬ (c : Int) < 0 := by omega
  have h1 : (c : Int) < 64 := by omega
  have c1 := hc.c1
  have c2 := hc.c2
  have OWN := Lib.hid own
  have hsz : Maps.size D < maxLen := by unfold maxLen; omega
  have CS := Lib.hid hc
  have FR := Lib.hid hb
  clear hc hb own
  have mixed : Tryd.prog.follows .mixedOrders = true := by kernel_rfl
  go_enter Tryd.func24, Tryd.ntmps24
  go_wp2_with fail
  refine wp_region_still_tail 11 mixed (by kernel_rfl) ?_
  simp only [List.take_succ_cons, List.take_zero, List.drop_succ_cons, List.drop_zero]
  repeat still_step
  refine wpStill_nil ?_
  go_wp2_with (at_mapUpdate; refine wpList_mapUpdate_in _ rfl _ _ _ 47 rfl 3 54 law3 Tryd.underlying47 tkElem bm (Maps.size D) D rfl OWN.out hsz _ _ _ rfl rfl (keyOf_int_mk Tryd.underlying3 hx) (tw c t) [] (tkElem_mk c t) ?_; intro w3 own3 turn3)
  have TU := Lib.hid turn3
  have b3 : Cs w3 p bm k t := CS.out.keep (turned_block turn3 CS.out.lt n1)
  have f3 : Fr w3 B f := FR.out.keep (turned_block turn3 (lt_of_cell FR.out.c) (Ne.symm n3))
  have O3 := Lib.hid own3
  have B3 := Lib.hid b3
  have F3 := Lib.hid f3
  have k0 := f3.c
  have z0 := f3.z
  obtain ⟨y, hy⟩ : ∃ y, y = 2 ^ c := ⟨_, rfl⟩
  have hy2 : y < 18446744073709551616 := by rw [hy]; exact two_pow_lt hcc
  have e1 : IntKind.u64.wrap ((2 : Int) ^ c) = (y : Int) := by
    have e : (2 : Int) ^ c = ((2 ^ c : Nat) : Int) := by simp
    rw [IntKind.wrap_u64, e, ← hy]; omega
  have e2 := bits_andNot_u64_nat f y hf hy2
  obtain ⟨f', hf'⟩ : ∃ f', f' = f &&& (18446744073709551615 ^^^ y) := ⟨_, rfl⟩
  rw [← hf'] at e2
  have e3 : Hid (f' = less f c) := by rw [Hid, hf', hy]; rfl
  clear turn3 own3 b3 f3 c1 c2 hf' hy
  go_wp2_with fail
  refine wp_region_still_tail 7 mixed (by kernel_rfl) ?_
  simp only [List.take_succ_cons, List.take_zero, List.drop_succ_cons, List.drop_zero]
  repeat still_step
  refine wpStill_nil ?_
  go_wp2_with fail
  refine bodyPost_end (v := .tuple #[]) (by simp [results, Tryd.results24, go_sem]) rfl ?_
  have hB3 : B < w3.heap.size := lt_of_cell k0
  have hp3 : p < w3.heap.size := B3.out.lt
  have eo : ∀ j, j ≠ B → ((w3.setCell ⟨B, 0, none⟩ (.int .u64 (f' : Nat))).drew).heap[j]? = w3.heap[j]? := fun j hj => blk_other w3 B 0 _ j hj
  refine ⟨rfl, B3.out.keep (eo p n2), ⟨?_, ?_⟩, ?_, ?_⟩
  · rw [← e3.out]; exact World.cell?_setCell_same w3 _ _ k0
  · have : (w3.setCell ⟨B, 0, none⟩ (.int .u64 (f' : Nat))).frozen? ⟨B, 0, none⟩ = false := by simpa using z0
    exact this
  · refine ⟨_, own_tight (own_keep O3.out (eo bm n3)), map.put OWN.out.isMap x c t, ?_⟩
    rw [size_put (OWN.out.tidy law3)]
    split <;> omega
  · exact (((Ke.refl _ w).drew.trans (turned_ke TU.out (.inl rfl) : Ke (fun j => j = bm ∨ j = B) w.drew w3)).set (p := ⟨B, 0, none⟩) (.inl (.inr rfl)) _).drew
end Go.Proofs.YtnmdidglfegdcaaDoor
