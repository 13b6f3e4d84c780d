/- The chains as the calendar uses them; the calendar in memory. -/
import Derived.Test.YtlpjojegdnconaaDoorE8
namespace Go.Proofs.YtlpjojegdnconaaDoor.Ca
open Go.RowKit Go.Lib Go.Maps
set_option linter.unusedVariables false
set_option maxRecDepth 100000

section
variable {w w' : World} {base : Bs} {p c : Nat} {F : Nat → Prop} {own : Nat → Option Int}
theorem NilC.pl (h : NilC w base p c) : p < w.heap.size := lt_of_cell h.c0
theorem NilC.keep (h : NilC w base p c) (q : w'.heap[p]? = w.heap[p]?) : NilC w' base p c :=
  ⟨h.bp, h.c6, (World.cell?_of_block q).trans h.c0, (World.cell?_of_block q).trans h.c1, (World.cell?_of_block q).trans h.c2, fun o => (World.frozen?_of_block (a := ⟨p, o, none⟩) q).trans (h.fz o), fun o ho => (World.cell?_of_block (a := ⟨p, o, none⟩) q).trans (h.lo o ho)⟩
theorem Chn.lt (h : Chn w base p c F own) {g : Nat} (hg : F g) : base ≤ g ∧ g < w.heap.size := by
  rcases h with ⟨h, _, rfl⟩ | h
  · have := h.pl; have := h.bp
    have hg' : g = p := hg
    omega
  · obtain ⟨b, lk, N, free, P, X, H, D, rk, R, FL, cm, ci, rfl⟩ := h.ex
    exact cm.lt hg
theorem Chn.self (h : Chn w base p c F own) : F p := by
  rcases h with ⟨h, _, rfl⟩ | h
  · rfl
  · obtain ⟨b, lk, N, free, P, X, H, D, rk, R, FL, cm, ci, rfl⟩ := h.ex
    exact .inl rfl
theorem Chn.fz (h : Chn w base p c F own) (o : Nat) : w.frozen? ⟨p, o, none⟩ = false := by
  rcases h with ⟨h, _, rfl⟩ | h
  · exact h.fz o
  · obtain ⟨b, lk, N, free, P, X, H, D, rk, R, FL, cm, ci, rfl⟩ := h.ex
    exact cm.fz o
theorem Chn.ke {G : Nat → Prop} (h : Chn w base p c F own) (k : Ke G w w') (hG : ∀ j, F j → ¬ G j) : Chn w' base p c F own := by
  have hp := h.lt h.self
  have hg := hG p h.self
  rcases h with ⟨h, e, rfl⟩ | h
  · exact .inl ⟨h.keep (k.block p hp.2 hg), e, rfl⟩
  · obtain ⟨b, lk, N, free, P, X, H, D, rk, R, FL, cm, ci, rfl⟩ := h.ex
    exact .inr ⟨⟨b, lk, N, free, P, X, H, D, rk, R, FL, cm.ke k hG, ci, rfl⟩, h.wf⟩
theorem Chn.gr (h : Chn w base p c F own) (k : Gr w w') : Chn w' base p c F own := h.ke k (fun _ _ q => q)
/-- Stores into the further cells of the block. -/
theorem Chn.set (h : Chn w base p c F own) {o : Nat} (ho : 71 ≤ o) (v : Value) : Chn (w.setCell ⟨p, o, none⟩ v) base p c F own := by
  rcases h with ⟨h, e, rfl⟩ | h
  · refine .inl ⟨⟨h.bp, h.c6, ?_, ?_, ?_, fun q => by simpa using h.fz q, fun o' ho' => (World.cell?_setCell_other w _ _ _ (fun q => by cases q; omega)).trans (h.lo o' ho')⟩, e, rfl⟩
    · exact (World.cell?_setCell_other w _ _ _ (fun q => by cases q; omega)).trans h.c0
    · exact (World.cell?_setCell_other w _ _ _ (fun q => by cases q; omega)).trans h.c1
    · exact (World.cell?_setCell_other w _ _ _ (fun q => by cases q; omega)).trans h.c2
  · obtain ⟨b, lk, N, free, P, X, H, D, rk, R, FL, cm, ci, rfl⟩ := h.ex
    refine .inr ⟨⟨b, lk, N, free, P, X, H, D, rk, R, FL, { cm with c0 := ?_, c1 := ?_, c2 := ?_, fz := fun q => by simpa using cm.fz q, lo := fun o' ho' => (World.cell?_setCell_other w _ _ _ (fun q => by cases q; omega)).trans (cm.lo o' ho'), row := ?_, own := ?_ }, ci, rfl⟩, h.wf⟩
    · exact (World.cell?_setCell_other w _ _ _ (fun q => by cases q; omega)).trans cm.c0
    · exact (World.cell?_setCell_other w _ _ _ (fun q => by cases q; omega)).trans cm.c1
    · exact (World.cell?_setCell_other w _ _ _ (fun q => by cases q; omega)).trans cm.c2
    · exact cm.row.keep (fun x hx => blk_other _ _ _ _ _ (fun e => cm.lp (by rw [hx, e])))
    · exact ownsMap_keep cm.own (blk_other _ _ _ _ _ (Ne.symm cm.pb))
theorem Chn.mark (h : Chn w base p c F own) {m : Nat} {i : Int} (ho : own m = some i) : 0 < m ∧ m ≤ c ∧ c ≤ 65536 ∧ (Lit.int .i64 i).wf = true := by
  rcases h with ⟨h, rfl, rfl⟩ | h
  · cases ho
  · have hw := h.wf m i ho
    obtain ⟨b, lk, N, free, P, X, H, D, rk, R, FL, cm, ci, rfl⟩ := h.ex
    have := ci.out m i ho
    have := cm.nc
    have := cm.c6
    exact ⟨by omega, by omega, by omega, hw⟩

/-- What remove leaves, of the chains. -/
structure RmQ (w : World) (base : Bs) (p c : Nat) (F : Nat → Prop) (own : Nat → Option Int) (w' : World) : Prop where
  ch : Chn w' base p c F own
  ke : Ke F w w'
  rest : Rest p w w'
theorem chn_remove (h : Chn w base p c F own) (i : Int) {m : Nat} (hm : own m = some i) :
    Calls Tryd.prog 78 #[.pointer (some ⟨p, 68, none⟩), .int .i64 m, .int .i64 i] w fun e w' => e = .returned (.tuple #[]) ∧ RmQ w base p c F (upd own m none) w' := by
  rcases h with ⟨h, rfl, rfl⟩ | h
  · cases hm
  · have wf := h.wf
    obtain ⟨b, lk, N, free, P, X, H, D, rk, R, FL, cm, ci, rfl⟩ := h.ex
    refine (remove_chain w base p b lk N free P X H D c own rk R FL cm ci m i (wf m i hm) hm).mono ?_
    rintro e w' ⟨rfl, q⟩
    obtain ⟨free', P', X', H', D', FL', cm', ci'⟩ := q.ex
    refine ⟨rfl, .inr ⟨⟨b, lk, N, free', P', X', H', D', rk, R, FL', cm', ci', rfl⟩, fun k j hk => ?_⟩, q.ke, q.rest⟩
    by_cases e : k = m
    · subst e; rw [upd_same] at hk; cases hk
    · rw [upd_other _ _ e] at hk; exact wf k j hk
end

/-- Where a mark stands: in the first heap. -/
theorem place_any (w : World) (m : Nat) (hm : m < 65536) : Calls Tryd.prog 61 #[.int .i64 m] w fun e w' => e = .returned (.tuple #[.int .i64 0, .int .i64 m]) ∧ w' = w := by
  have h0 : (0 : Int) ≤ (m : Int) := by omega
  have h1 : (m : Int).tdiv 65536 = 0 := by rw [Int.tdiv_eq_ediv_of_nonneg h0]; omega
  have h2 : (m : Int) / 65536 = 0 := by omega
  have h3 : (m : Int).tmod 65536 = (m : Int) := by rw [Int.tmod_eq_emod_of_nonneg h0]; omega
  have h4 : (m : Int) % 65536 = (m : Int) := by omega
  go_enter Tryd.func61, Tryd.ntmps61
  go_wp2
  go_ret2
  exact ⟨rfl, rfl⟩
end Go.Proofs.YtlpjojegdnconaaDoor.Ca
