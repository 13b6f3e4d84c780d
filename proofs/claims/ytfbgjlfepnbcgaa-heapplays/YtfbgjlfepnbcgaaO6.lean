/- The heap in a law: the blocks that lay ahead of the call are as they were; the law's own order; the law's first sentence (awake). -/
import Derived.Test.YtfbgjlfepnbcgaaN6
namespace Go.Proofs.Ytfbgjlfepnbcgaa
open Go.RowKit Go.Lib
set_option linter.unusedVariables false

/-- The heap at p in a call that began in w0: its blocks are the call's own. -/
structure Hl (w0 w : World) (p : Nat) (k : Int) (F : Nat → Prop) (n : Nat) (M : Nat → Option Rk) : Prop where
  st : St w w0.heap.size p k F n M
  below : Below w0.heap.size w0 w
section
variable {w0 w w' : World} {p : Nat} {k : Int} {F F' : Nat → Prop} {n n' : Nat} {M M' : Nat → Option Rk}
theorem below_sv (h : Below w0.heap.size w0 w) (s : Sv F F' w w') (hF : ∀ g, F g → w0.heap.size ≤ g) : Below w0.heap.size w0 w' :=
  h.trans (s.ke.below h.size (fun k hk q => by have := hF k q; omega))
theorem Hl.own (h : Hl w0 w p k F n M) (g : Nat) (hg : F g) : w0.heap.size ≤ g := (h.st.lt hg).1
theorem Hl.next (h : Hl w0 w p k F n M) (s : St w' w0.heap.size p k F' n' M') (v : Sv F F' w w') : Hl w0 w' p k F' n' M' := ⟨s, below_sv h.below v h.own⟩
theorem Hl.gr (h : Hl w0 w p k F n M) (g : Gr w w') : Hl w0 w' p k F n M := h.next (h.st.gr g) (Sv.of_gr g)
theorem Hl.same (h : Hl w0 w p k F n M) (s : St w' w0.heap.size p k F n' M') (v : Ke F w w') : Hl w0 w' p k F n' M' := h.next s ⟨v, fun g q => .inl q⟩

/-- Put: new or not. -/
theorem hl_put_new (h : Hl w0 w p k F n M) (s : Nat) (h6 : s < 65536) (r : Rk) (hM : M s = none) : Calls Try.prog 11 #[.pointer (some ⟨p, 0, none⟩), .int .i64 s, V r] w fun e w' => e = .returned (.int .i64 0) ∧ ∃ F', Hl w0 w' p k F' (n + 1) (upd M s (some r)) ∧ Sv F F' w w' := by
  refine (st_put_new h.st s h6 r hM).mono ?_
  rintro e w' ⟨rfl, F', s', v⟩
  exact ⟨rfl, F', h.next s' v, v⟩
theorem hl_put_old (h : Hl w0 w p k F n M) (s : Nat) (h6 : s < 65536) (r r0 : Rk) (hM : M s = some r0) : Calls Try.prog 11 #[.pointer (some ⟨p, 0, none⟩), .int .i64 s, V r] w fun e w' => e = .returned (.int .i64 0) ∧ Hl w0 w' p k F n (upd M s (some r)) ∧ Sv F F w w' := by
  refine (st_put_old h.st s h6 r r0 hM).mono ?_
  rintro e w' ⟨rfl, s', v⟩
  exact ⟨rfl, h.same s' v, ⟨v, fun g q => .inl q⟩⟩
/-- How many there are behind a Put. -/
def more (M : Nat → Option Rk) (n s : Nat) : Nat := if (M s).isSome then n else n + 1
theorem hl_put (h : Hl w0 w p k F n M) (s : Nat) (h6 : s < 65536) (r : Rk) : Calls Try.prog 11 #[.pointer (some ⟨p, 0, none⟩), .int .i64 s, V r] w fun e w' => e = .returned (.int .i64 0) ∧ ∃ F', Hl w0 w' p k F' (more M n s) (upd M s (some r)) ∧ Sv F F' w w' := by
  cases e : M s
  · rw [show more M n s = n + 1 by simp [more, e]]
    exact hl_put_new h s h6 r e
  · rename_i r0
    rw [show more M n s = n by simp [more, e]]
    refine (hl_put_old h s h6 r r0 e).mono ?_
    rintro e w' ⟨rfl, a, b⟩
    exact ⟨rfl, F, a, b⟩
theorem hl_put_bad (h : Hl w0 w p k F n M) (s : Int) (hs : s < 0 ∨ 65536 ≤ s) (r : Rk) : Calls Try.prog 11 #[.pointer (some ⟨p, 0, none⟩), .int .i64 s, V r] w fun e w' => e = .returned (.int .i64 2) ∧ Hl w0 w' p k F n M ∧ Sv F F w w' := by
  refine (st_put_bad h.st s hs r).mono ?_
  rintro e w' ⟨rfl, g⟩
  exact ⟨rfl, h.gr g, Sv.of_gr g⟩
theorem hl_len (h : Hl w0 w p k F n M) : Calls Try.prog 16 #[.pointer (some ⟨p, 0, none⟩)] w fun e w' => e = .returned (.int .i64 n) ∧ w' = w := st_len h.st
theorem hl_top (h : Hl w0 w p k F n M) (s : Nat) (r : Rk) (hf : First k M s r) : Calls Try.prog 13 #[.pointer (some ⟨p, 0, none⟩)] w fun e w' => e = TopV s r true ∧ Hl w0 w' p k F n M ∧ Sv F F w w' := by
  refine (st_top h.st s r hf).mono ?_
  rintro e w' ⟨rfl, g⟩
  exact ⟨rfl, h.gr g, Sv.of_gr g⟩
theorem hl_top_none (h : Hl w0 w p k F 0 M) : Calls Try.prog 13 #[.pointer (some ⟨p, 0, none⟩)] w fun e w' => e = TopV 0 ⟨0, 0, 0, 0⟩ false ∧ Hl w0 w' p k F 0 M ∧ Sv F F w w' := by
  refine (st_top_none h.st).mono ?_
  rintro e w' ⟨rfl, g⟩
  exact ⟨rfl, h.gr g, Sv.of_gr g⟩
theorem hl_pop (h : Hl w0 w p k F (n + 1) M) (s : Nat) (r : Rk) (hf : First k M s r) : Calls Try.prog 14 #[.pointer (some ⟨p, 0, none⟩)] w fun e w' => e = TopV s r true ∧ Hl w0 w' p k F n (upd M s none) ∧ Sv F F w w' := by
  refine (st_pop h.st s r hf).mono ?_
  rintro e w' ⟨rfl, s', v⟩
  exact ⟨rfl, h.same s' v, ⟨v, fun g q => .inl q⟩⟩
theorem hl_pop_none (h : Hl w0 w p k F 0 M) : Calls Try.prog 14 #[.pointer (some ⟨p, 0, none⟩)] w fun e w' => e = TopV 0 ⟨0, 0, 0, 0⟩ false ∧ Hl w0 w' p k F 0 M ∧ Sv F F w w' := by
  refine (st_pop_none h.st).mono ?_
  rintro e w' ⟨rfl, g⟩
  exact ⟨rfl, h.gr g, Sv.of_gr g⟩
theorem hl_drop (h : Hl w0 w p k F (n + 1) M) (s : Nat) (r : Rk) (hM : M s = some r) : Calls Try.prog 15 #[.pointer (some ⟨p, 0, none⟩), .int .i64 s] w fun e w' => e = .returned (.bool true) ∧ Hl w0 w' p k F n (upd M s none) ∧ Sv F F w w' := by
  refine (st_drop h.st s r hM).mono ?_
  rintro e w' ⟨rfl, s', v⟩
  exact ⟨rfl, h.same s' v, ⟨v, fun g q => .inl q⟩⟩
theorem hl_drop_none (h : Hl w0 w p k F n M) (slot : Int) (hs : ∀ s : Nat, slot = s → M s = none) : Calls Try.prog 15 #[.pointer (some ⟨p, 0, none⟩), .int .i64 slot] w fun e w' => e = .returned (.bool false) ∧ w' = w := st_drop_none h.st slot hs
theorem hl_new (hb : Below w0.heap.size w0 w) (k : Int) : Calls Try.prog 9 #[.int .i64 k] w fun e w' => e = .returned (.pointer (some ⟨w.heap.size, 0, none⟩)) ∧ Hl w0 w' w.heap.size k (fun g => g = w.heap.size) 0 (fun _ => none) ∧ Gr w w' := by
  refine (st_new w hb.size k).mono ?_
  rintro e w' ⟨rfl, s, g⟩
  exact ⟨rfl, ⟨s, hb.trans (g.below hb.size (fun _ _ q => q))⟩, g⟩
end

theorem first_two {k : Int} {s1 s2 : Nat} {r1 r2 : Rk} (h : s1 ≠ s2) (ha : ahead k ⟨s2, r2⟩ ⟨s1, r1⟩ = true) : First k (upd (upd (fun _ => none) s1 (some r1)) s2 (some r2)) s2 r2 := by
  refine ⟨upd_same _ _ _, fun s' r' h' hne => ?_⟩
  rw [upd_other _ _ hne] at h'
  by_cases e : s' = s1
  · subst e; rw [upd_same] at h'; cases h'; exact ha
  · rw [upd_other _ _ e] at h'; cases h'

set_option maxRecDepth 100000 in
set_option maxHeartbeats 2000000 in
theorem awake_true (w : World) : Calls Try.prog 8 #[] w fun e w' => e = .returned (.bool true) ∧ Below w.heap.size w w' := by
  have C := Lib.hid (hl_new (Below.refl _ w) 2)
  have CM := Lib.hid made_any
  go_enter Try.func8, Try.ntmps8
  go_wp2_with fail
  refine C.out.mono ?_
  rintro e w1 ⟨rfl, H1, _⟩
  have H := Lib.hid H1
  clear C H1
  go_wp2_with fail
  refine (CM.out ⟨5, 0, 0, 0⟩ _).mono ?_
  rintro e w2 ⟨rfl, g2⟩
  have H2 := Lib.hid (H.out.gr g2)
  clear H g2
  have C := Lib.hid (hl_put_new H2.out 3 (by omega) ⟨5, 0, 0, 0⟩ rfl)
  go_wp2_with fail
  refine C.out.mono ?_
  rintro e w3 ⟨rfl, F3, H3', _⟩
  have H3 := Lib.hid H3'
  clear C H2 H3'
  go_wp2_with fail
  refine (CM.out ⟨2, 0, 0, 0⟩ _).mono ?_
  rintro e w4 ⟨rfl, g4⟩
  have H4 := Lib.hid (H3.out.gr g4)
  clear H3 g4
  have C := Lib.hid (hl_put_new H4.out 4 (by omega) ⟨2, 0, 0, 0⟩ (by rw [upd_other _ _ (by omega)]))
  go_wp2_with fail
  refine C.out.mono ?_
  rintro e w5 ⟨rfl, F5, H5', _⟩
  have H5 := Lib.hid H5'
  clear C H4 H5'
  have C := Lib.hid (hl_top H5.out 4 ⟨2, 0, 0, 0⟩ (first_two (by omega) (by decide)))
  go_wp2_with fail
  refine C.out.mono ?_
  rintro e w6 ⟨rfl, H6', _⟩
  have H6 := Lib.hid H6'
  clear C H5 H6'
  have C := Lib.hid (fun W (g : Gr w6 W) => hl_len (H6.out.gr g))
  go_wp2_with fail
  refine (C.out _ ((Ke.refl _ _).alloc _)).mono ?_
  rintro e w7 ⟨rfl, hw⟩
  obtain rfl := hw.symm
  go_wp2
  go_ret
  exact ⟨rfl, (H6.out.gr ((Ke.refl _ _).alloc _)).below⟩

end Go.Proofs.Ytfbgjlfepnbcgaa
