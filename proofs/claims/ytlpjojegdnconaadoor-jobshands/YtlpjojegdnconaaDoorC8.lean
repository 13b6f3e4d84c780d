/- The chains of a calendar: contracts of take and lead. -/
import Derived.Test.YtlpjojegdnconaaDoorB8
namespace Go.Proofs.YtlpjojegdnconaaDoor.Ca
open Go.RowKit Go.Lib Go.Maps
set_option linter.unusedVariables false
set_option maxRecDepth 100000

theorem setP_rest (w : World) (p o : Nat) (ho : 68 ≤ o ∧ o < 71) (v : Value) (j : Nat) (hj : j < 68 ∨ 71 ≤ j) : (w.setCell ⟨p, o, none⟩ v).cell? ⟨p, j, none⟩ = w.cell? ⟨p, j, none⟩ := World.cell?_setCell_other w _ _ _ (fun q => by cases q; omega)

/-- What take leaves. -/
structure TkP (w : World) (base : Bs) (p b : Nat) (lk : Value) (H : Int → Nat) (D : DataW Unit) (c : Nat) (own : Nat → Option Int) (rk : Nat → Nat) (R mark : Nat) (w' : World) : Prop where
  ex : ∃ lk' N' free' P' X' FL', Cm w' base p b lk' N' free' P' X' H D (c + 1) ∧ ChI N' P' X' free' H own rk R FL' ∧ mark ∉ FL' ∧ mark < N' ∧ ∀ g, FootC p b lk' g → FootC p b lk g ∨ w.heap.size ≤ g
  pos : 0 < mark
  no : own mark = none
  ke : Ke (FootC p b lk) w w'
  map : w'.heap[b]? = w.heap[b]?
  head : w'.cell? ⟨p, 68, none⟩ = w.cell? ⟨p, 68, none⟩
  rest : ∀ o, (o < 68 ∨ 71 ≤ o) → w'.cell? ⟨p, o, none⟩ = w.cell? ⟨p, o, none⟩

/-- Which one take gives. -/
def tk (N free : Nat) : Nat := if free = 0 then N else free

section
variable (w : World) (base : Bs) (p b : Nat) (lk : Value) (N free : Nat) (P X : Nat → Nat) (H : Int → Nat) (D : DataW Unit) (c : Nat) (own : Nat → Option Int) (rk : Nat → Nat) (R : Nat) (FL : List Nat)

theorem take_old (h : Cm w base p b lk N free P X H D c) (k : ChI N P X free H own rk R FL) (hf : free ≠ 0) (hc : c + 1 ≤ 65536) :
    Calls Tryd.prog 79 #[.pointer (some ⟨p, 68, none⟩)] w fun e w' => e = .returned (.int .i64 (free : Nat)) ∧ TkP w base p b lk H D c own rk R free w' := by
  have hlt := k.flt
  have hnc := h.nc
  obtain ⟨g, cap, rfl, bg, lg, nc, cm⟩ := h.row.form (by omega)
  obtain ⟨FL', k2, k3, k4, k5⟩ := k.take hf
  obtain ⟨t0, t1⟩ := link_cells h.row free hlt
  have c1 := h.c1
  have c2 := h.c2
  have fz := h.fz 70
  have PP := Lib.hid h
  have KK := Lib.hid k2
  have e1 : ((free : Int) != 0) = true := by simp; omega
  have hltz : (free : Int) < (N : Int) := by omega
  have hc6 := h.c6
  clear h k k2
  go_enter Tryd.func79, Tryd.ntmps79
  go_wp2
  go_ret
  refine ⟨rfl, ⟨_, _, _, _, _, FL', (PP.out.setF (X free) rfl).more (by omega) hc, KK.out, k3, k4, fun g hg => .inl hg⟩, by omega, k5, (Ke.refl _ w).set (.inl (.inl rfl)) _, blk_other _ _ _ _ _ (Ne.symm PP.out.pb), World.cell?_setCell_other w _ _ _ (fun q => by cases q), fun o ho => setP_rest w p 70 (by omega) _ o ho⟩

theorem links_more (h : Cm w base p b lk N free P X H D c) (hN : N + 1 ≤ 65536 + 1) (a : Addr) (hc : ∀ j x, ([.int .i64 0, .int .i64 0] : List Value)[j]? = some x → w.cell? (a.add j) = some x) :
    ∃ lk' w1, (Builtin.append_ #[72, 72] 72 #[lk, .slice (some a) 1 1]).run Tryd.prog w = .ok lk' w1 ∧ w.grownBy w1 lk.ownBlock ∧ Row w1 base 124 2 lk' (N + 1) (lc (upd P N 0) (upd X N 0)) ∧ (lk'.ownBlock = lk.ownBlock ∨ lk'.ownBlock = some w.heap.size) := by
  obtain ⟨i, hi, h1, h2, h3⟩ := info124
  obtain ⟨v', w1, hr, ho, hg, ha⟩ := append_own_at (P := Tryd.prog) w base 72 72 124 i _ 2 16 Tryd.underlying72 hi h3 h1 h2 rfl (by omega) lk N _ h.row a 1 1 [.int .i64 0, .int .i64 0] (by omega) rfl hc (by simp [Value.oneCell']) (by unfold maxLen; omega) (by omega) (by have := h.bp; have := h.pl; omega)
  refine ⟨v', w1, hr, hg, ?_, ha⟩
  unfold Row
  rw [show (List.range ((N + 1) * 2)).map (lc (upd P N 0) (upd X N 0)) = (List.range (N * 2)).map (lc P X) ++ [.int .i64 0, .int .i64 0] from ?_]
  · exact ho
  · rw [show (N + 1) * 2 = N * 2 + 1 + 1 by omega, List.range_succ, List.range_succ, List.map_append, List.map_append, List.append_assoc]
    congr 1
    · refine List.map_congr_left (fun j hj => ?_)
      have := List.mem_range.1 hj
      unfold lc
      rw [upd_other _ _ (show j / 2 ≠ N by omega), upd_other _ _ (show j / 2 ≠ N by omega)]
    · simp only [List.map_cons, List.map_nil, List.cons_append, List.nil_append, lc]
      rw [if_pos (by omega), if_neg (by omega), show N * 2 / 2 = N by omega, show (N * 2 + 1) / 2 = N by omega, upd_same, upd_same]
      rfl

theorem take_new (h : Cm w base p b lk N free P X H D c) (k : ChI N P X free H own rk R FL) (hf : free = 0) (hc : c + 1 ≤ 65536) :
    Calls Tryd.prog 79 #[.pointer (some ⟨p, 68, none⟩)] w fun e w' => e = .returned (.int .i64 (N : Nat)) ∧ TkP w base p b lk H D c own rk R N w' := by
  subst hf
  have hnc := h.nc
  obtain ⟨k2, k3⟩ := k.more rfl
  have kp := k.pos
  have hA := (h.more (Nat.le_succ c) hc).gr ((Ke.refl _ w).alloc (.cells #[.int .i64 0, .int .i64 0] 124))
  obtain ⟨lk', w1, hr, hg, hrow, ha⟩ := links_more _ base p b lk N 0 P X H D (c + 1) hA (by omega) ⟨w.heap.size, 0, none⟩ (fun j x hx => by
    rcases j with _ | _ | j
    · cases hx; simp [go_sem, Addr.add]
    · cases hx; simp [go_sem, Addr.add]
    · simp at hx)
  obtain ⟨M1, K1, e0, e1, e2, z1, r1⟩ := hA.put1 hg hrow (by omega) ha
  obtain ⟨g', cap', rfl, bg', lg', nc', cm'⟩ := hrow.form (by omega)
  have c1 := h.c1
  have c2 := h.c2
  have HR := Lib.hid hr
  have PP := Lib.hid (show TkP w base p b lk H D c own rk R N (w1.setCell ⟨p, 69, none⟩ (.slice (some ⟨g', 0, none⟩) (N + 1) cap')) from by
    have kg : Ke (FootC p b lk) w (w1.setCell ⟨p, 69, none⟩ (.slice (some ⟨g', 0, none⟩) (N + 1) cap')) := ((Ke.refl _ w).alloc _).trans K1
    refine ⟨⟨_, _, _, _, _, [], M1, k2, by simp, by omega, fun g hg => ?_⟩, kp, k3, kg, ?_, ?_, fun o ho => ?_⟩
    · rcases hg with e | e | e
      · exact .inl (.inl e)
      · exact .inl (.inr (.inl e))
      · rcases ha with q | q
        · rw [q] at e; exact .inl (.inr (.inr e))
        · rw [q] at e
          have : g = w.heap.size + 1 := by simpa using (Option.some.inj e).symm
          exact .inr (by omega)
    · have hbl := ownsMap_lt h.own
      have q1 : w1.heap[b]? = (w.alloc (.cells #[.int .i64 0, .int .i64 0] 124)).heap[b]? := hg.block b (by simp; omega) (own_ne h.lb)
      exact ((blk_other _ _ _ _ _ (Ne.symm h.pb)).trans q1).trans (Below.heap_alloc w _ b hbl)
    · exact M1.c0.trans h.c0.symm
    · exact (r1 o ho).trans (World.cell?_of_block (a := ⟨p, o, none⟩) (Below.heap_alloc w _ p h.pl)))
  have M2 := Lib.hid M1.c1
  rcases h.row.shape with ⟨rfl, rfl⟩ | ⟨q, cap0, rfl, bq0, lq0, nc0, cm0⟩
  · omega
  · have eN : ((N + 1 : Nat) : Int) - 1 = (N : Int) := by omega
    obtain ⟨N1, hN1⟩ : ∃ N1, N1 = N + 1 := ⟨_, rfl⟩
    rw [← hN1] at HR PP M2 eN
    clear h k k2 hA hr hg hrow ha M1 K1 r1 k3 hN1
    go_enter Tryd.func79, Tryd.ntmps79
    go_wp2_with (at_builtin; refine Lib.wpList_append_run _ rfl _ _ 72 72 rfl _ _ rfl rfl _ _ HR.out ?_)
    go_ret
    exact ⟨rfl, PP.out⟩
theorem take_any (h : Cm w base p b lk N free P X H D c) (k : ChI N P X free H own rk R FL) (hc : c + 1 ≤ 65536) :
    Calls Tryd.prog 79 #[.pointer (some ⟨p, 68, none⟩)] w fun e w' => e = .returned (.int .i64 (tk N free : Nat)) ∧ TkP w base p b lk H D c own rk R (tk N free) w' := by
  by_cases hf : free = 0
  · rw [show tk N free = N by simp [tk, hf]]
    exact take_new w base p b lk N free P X H D c own rk R FL h k hf hc
  · rw [show tk N free = free by simp [tk, hf]]
    exact take_old w base p b lk N free P X H D c own rk R FL h k hf hc

end
/-- What lead leaves. -/
structure LdP (w : World) (base : Bs) (p b : Nat) (lk : Value) (N free : Nat) (P X : Nat → Nat) (H' : Int → Nat) (c : Nat) (w' : World) : Prop where
  ex : ∃ D', Cm w' base p b lk N free P X H' D' c
  turn : w.mapTurned w' b
section
variable (w : World) (base : Bs) (p b : Nat) (lk : Value) (N free : Nat) (P X : Nat → Nat) (H : Int → Nat) (D : DataW Unit) (c : Nat) (own : Nat → Option Int) (rk : Nat → Nat) (R : Nat) (FL : List Nat)
/-- lead: the mark is the first of i; nought: it has none. -/
theorem lead_zero (h : Cm w base p b lk N free P X H D c) (i : Int) (hi : (Lit.int .i64 i).wf = true) :
    Calls Tryd.prog 94 #[.pointer (some ⟨p, 68, none⟩), .int .i64 i, .int .i64 0] w fun e w' => e = .returned (.tuple #[]) ∧ LdP w base p b lk N free P X (updI H i 0) c w' := by
  have c0 := h.c0
  have OWN := Lib.hid h.own
  have PP := Lib.hid h
  clear h
  go_enter Tryd.func94, Tryd.ntmps94
  go_wp2_with (at_delete; refine wpList_delete_own _ rfl _ _ 62 3 rfl 3 law3 Tryd.underlying62 _ b _ D rfl OWN.out _ _ rfl (keyOf_int_mk Tryd.underlying3 hi) ?_; intro w1 own1 turn1)
  refine bodyPost_ret (results_none rfl _ _ _) rfl ?_
  refine ⟨rfl, ⟨_, PP.out.setM turn1 own1 (PP.out.map.del i) ?_⟩, turn1⟩
  have h1 := size_del (k := .int .i64 i) (PP.out.own.tidy law3)
  have := PP.out.sz
  omega
theorem lead_some (h : Cm w base p b lk N free P X H D c) (i : Int) (hi : (Lit.int .i64 i).wf = true) (m : Nat) (hm : m ≠ 0) (hm6 : m ≤ 65536) (hs : H i = 0 → Maps.size D + 1 ≤ c) :
    Calls Tryd.prog 94 #[.pointer (some ⟨p, 68, none⟩), .int .i64 i, .int .i64 m] w fun e w' => e = .returned (.tuple #[]) ∧ LdP w base p b lk N free P X (updI H i m) c w' := by
  have c0 := h.c0
  have OWN := Lib.hid h.own
  have PP := Lib.hid h
  have hsz : Maps.size D < maxLen := by have := h.sz; have := h.c6; unfold maxLen; omega
  have e1 : ((m : Int) == 0) = false := by simp; omega
  have HS := Lib.hid hs
  clear h hs
  go_enter Tryd.func94, Tryd.ntmps94
  go_wp2_with (at_mapUpdate; refine wpList_mapUpdate_in _ rfl _ _ _ 62 rfl 3 3 law3 Tryd.underlying62 _ b (Maps.size D) D rfl OWN.out hsz _ _ _ rfl rfl (keyOf_int_mk Tryd.underlying3 hi) _ [] (plainElem_int Tryd.underlying3 (WalkArith.wf_i64 (by omega))) ?_; intro w1 own1 turn1)
  go_end0
  refine ⟨rfl, ⟨_, PP.out.setM turn1 own1 (PP.out.map.put PP.out.own.isMap i hm) ?_⟩, turn1⟩
  rw [size_put (PP.out.own.tidy law3)]
  have := PP.out.sz
  by_cases e : H i = 0
  · have := HS.out e
    split <;> omega
  · rw [(PP.out.map.has i).2 e]
    simpa using this
end
end Go.Proofs.YtlpjojegdnconaaDoor.Ca
