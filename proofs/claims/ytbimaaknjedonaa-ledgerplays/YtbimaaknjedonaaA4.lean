/- The ledger: what it holds; contracts of limit, all, Sum, Lcm, Len, New. -/
import Derived.Test.YtbimaaknjedonaaA3
namespace Go.Proofs.Ytbimaaknjedonaa
open Go.RowKit Go.Lib Go.Maps
set_option linter.unusedVariables false

/-- A ledger that has its maps. -/
structure Led1 (w : World) (p b1 b2 : Nat) (c : Int) (L : List Wt) : Prop where
  ex : ∃ s0 s1 s2, LM w p (.map (some b1)) (.map (some b2)) c s0 s1 s2 ∧ (L ≠ [] → Tot L s0 s1 s2)
  o1 : ∃ D, w.ownsMap Try.prog 3 tkElem b1 (Maps.size D) D ∧ MapT D L
  o2 : ∃ D, w.ownsMap Try.prog 3 (plainElem Try.prog 3) b2 (Maps.size D) D ∧ MapC D L
  p1 : p ≠ b1
  p2 : p ≠ b2
  b12 : b1 ≠ b2
  ok : Okay (cut c) L
/-- A ledger that has none yet. -/
def Led0 (w : World) (p : Nat) (c : Int) : Prop := ∃ s0 s1 s2, LM w p (.map none) (.map none) c s0 s1 s2
/-- The blocks of a ledger with its maps. -/
def Foot (p b1 b2 : Nat) (g : Nat) : Prop := g = p ∨ g = b1 ∨ g = b2
/-- The ledger at p of k cores; its blocks are S; it holds L. -/
def Led (w : World) (S : Nat → Prop) (p : Nat) (k : Int) (L : List Wt) : Prop :=
  ∃ c, cut c = k ∧ ((Led0 w p c ∧ L = [] ∧ S = fun g => g = p) ∨ ∃ b1 b2, Led1 w p b1 b2 c L ∧ S = Foot p b1 b2)

section
variable {w w' : World} {S : Nat → Prop} {p b1 b2 : Nat} {c k : Int} {L : List Wt}
theorem Led1.keep (h : Led1 w p b1 b2 c L) (q : ∀ g, Foot p b1 b2 g → w'.heap[g]? = w.heap[g]?) : Led1 w' p b1 b2 c L := by
  obtain ⟨s0, s1, s2, a, t⟩ := h.ex
  obtain ⟨D1, o1, m1⟩ := h.o1
  obtain ⟨D2, o2, m2⟩ := h.o2
  exact ⟨⟨s0, s1, s2, a.keep (q p (.inl rfl)), t⟩, ⟨D1, own_keep o1 (q b1 (.inr (.inl rfl))), m1⟩, ⟨D2, own_keep o2 (q b2 (.inr (.inr rfl))), m2⟩, h.p1, h.p2, h.b12, h.ok⟩
theorem Led1.lt (h : Led1 w p b1 b2 c L) {g : Nat} (hg : Foot p b1 b2 g) : g < w.heap.size := by
  obtain ⟨s0, s1, s2, a, t⟩ := h.ex
  obtain ⟨D1, o1, m1⟩ := h.o1
  obtain ⟨D2, o2, m2⟩ := h.o2
  rcases hg with rfl | rfl | rfl
  · exact a.lt
  · exact o1.lt
  · exact o2.lt
theorem Led.lt (h : Led w S p k L) {g : Nat} (hg : S g) : g < w.heap.size := by
  obtain ⟨c, _, ⟨⟨s0, s1, s2, a⟩, _, rfl⟩ | ⟨b1, b2, a, rfl⟩⟩ := h
  · cases hg; exact a.lt
  · exact a.lt hg
theorem Led.self (h : Led w S p k L) : S p := by
  obtain ⟨c, _, ⟨_, _, rfl⟩ | ⟨b1, b2, a, rfl⟩⟩ := h
  · rfl
  · exact .inl rfl
theorem Led.keep (h : Led w S p k L) (q : ∀ g, S g → w'.heap[g]? = w.heap[g]?) : Led w' S p k L := by
  obtain ⟨c, hk, ⟨⟨s0, s1, s2, a⟩, e, rfl⟩ | ⟨b1, b2, a, rfl⟩⟩ := h
  · exact ⟨c, hk, .inl ⟨⟨s0, s1, s2, a.keep (q p rfl)⟩, e, rfl⟩⟩
  · exact ⟨c, hk, .inr ⟨b1, b2, a.keep q, rfl⟩⟩
theorem Led.ke {F : Nat → Prop} (h : Led w S p k L) (q : Ke F w w') (hF : ∀ g, S g → ¬ F g) : Led w' S p k L := h.keep (fun g hg => q.block g (h.lt hg) (hF g hg))
theorem Led.gr (h : Led w S p k L) (q : Gr w w') : Led w' S p k L := h.ke q (fun _ _ x => x)
theorem Led.ok (h : Led w S p k L) : Okay k L := by
  obtain ⟨c, rfl, ⟨_, rfl, _⟩ | ⟨b1, b2, a, _⟩⟩ := h
  · exact Okay.nil (cut_bd c).1 (cut_bd c).2
  · exact a.ok

/-! ### limit -/
theorem limit_any (h : ∃ m1 m2 s0 s1 s2, LM w p m1 m2 c s0 s1 s2) : Calls Try.prog 31 #[.pointer (some ⟨p, 0, none⟩)] w fun x w' => x = .returned (.agg #[.int .i64 (cut c), .int .i64 1]) ∧ Gr w w' := by
  obtain ⟨m1, m2, s0, s1, s2, a⟩ := h
  have c0 := a.c0
  have hp := a.lt
  clear a
  show Calls _ _ _ _ fun x w' => x = .returned (.agg #[.int .i64 (min (max c 1) 64), .int .i64 1]) ∧ Gr w w'
  go_enter Try.func31, Try.ntmps31
  go_wp2
  exact bodyPost_ret (v := .agg #[.int .i64 (min (max c 1) 64), .int .i64 1]) (by simp [results, Try.results31, go_sem]) rfl ⟨rfl, (Ke.refl _ w).alloc _⟩

/-! ### all -/
theorem all_any {N D M : Int} (h : Led w S p k L) (t : Tot L N D M) : Calls Try.prog 26 #[.pointer (some ⟨p, 0, none⟩)] w fun x w' => x = .returned (.agg #[.int .i64 N, .int .i64 D, .int .i64 M]) ∧ Gr w w' := by
  obtain ⟨c, _, ⟨⟨s0, s1, s2, a⟩, rfl, _⟩ | ⟨b1, b2, a, _⟩⟩ := h
  · obtain rfl : (0 : Int) = N := t.n
    obtain rfl : (1 : Int) = D := t.d
    obtain rfl : (1 : Int) = M := t.m
    have c1 := a.c1
    have hp := a.lt
    have HL := fun w => Maps.len_nil (P := Try.prog) (w := w) (t := 51) Try.underlying51
    clear a t
    go_enter Try.func26, Try.ntmps26
    go_wp2
    exact bodyPost_ret (v := .agg #[.int .i64 0, .int .i64 1, .int .i64 1]) (by simp [results, Try.results26, go_sem]) rfl ⟨rfl, (Ke.refl _ w).alloc _⟩
  · obtain ⟨s0, s1, s2, a0, ht⟩ := a.ex
    obtain ⟨D1, o1, m1⟩ := a.o1
    obtain ⟨n, hn⟩ : ∃ n, L.length = n := ⟨_, rfl⟩
    have sz := m1.size.trans hn
    have OW := Lib.hid o1
    have SZ := Lib.hid sz
    have c1 := a0.c1
    have c3 := a0.c3
    have c4 := a0.c4
    have c5 := a0.c5
    have hp := a0.lt
    by_cases hL : L = []
    · subst hL
      obtain rfl : (0 : Int) = N := t.n
      obtain rfl : (1 : Int) = D := t.d
      obtain rfl : (1 : Int) = M := t.m
      simp at hn
      subst hn
      clear a0 a ht o1 m1 t sz
      go_enter Try.func26, Try.ntmps26
      go_wp2_with (at_len; refine wpList_len_own _ rfl _ 51 rfl 3 59 Try.underlying51 tkElem b1 _ D1 rfl (OW.out.alloc _) ?_; rw [SZ.out])
      exact bodyPost_ret (v := .agg #[.int .i64 0, .int .i64 1, .int .i64 1]) (by simp [results, Try.results26, go_sem]) rfl ⟨rfl, (Ke.refl _ w).alloc _⟩
    · have tt := ht hL
      obtain rfl : s0 = N := tt.n.symm.trans t.n
      obtain rfl : s1 = D := tt.d.symm.trans t.d
      obtain rfl : s2 = M := tt.m.symm.trans t.m
      have hz : ¬ n = 0 := by
        rintro rfl
        exact hL (List.length_eq_zero_iff.1 hn)
      clear a0 a ht o1 m1 t sz tt hn hL
      go_enter Try.func26, Try.ntmps26
      go_wp2_with (at_len; refine wpList_len_own _ rfl _ 51 rfl 3 59 Try.underlying51 tkElem b1 _ D1 rfl (OW.out.alloc _) ?_; rw [SZ.out])
      exact bodyPost_ret (v := .agg #[.int .i64 s0, .int .i64 s1, .int .i64 s2]) (by simp [results, Try.results26, go_sem]) rfl ⟨rfl, (Ke.refl _ w).alloc _⟩
theorem field0 (N D M : Int) (w : World) : (Instr.field 54 (.agg #[.int .i64 N, .int .i64 D, .int .i64 M]) 0).run Try.prog w = .ok (.agg #[.int .i64 N, .int .i64 D]) w := by kernel_rfl
theorem field1 (N D M : Int) (w : World) : (Instr.field 54 (.agg #[.int .i64 N, .int .i64 D, .int .i64 M]) 1).run Try.prog w = .ok (.int .i64 M) w := by kernel_rfl
/-- Sum. -/
theorem sum_any' {N D M : Int} (h : Led w S p k L) (t : Tot L N D M) : Calls Try.prog 14 #[.pointer (some ⟨p, 0, none⟩)] w fun x w' => x = .returned (.agg #[.int .i64 N, .int .i64 D]) ∧ Gr w w' := by
  have H := Lib.hid h
  have T := Lib.hid t
  have F0 := field0
  clear h t
  go_enter Try.func14, Try.ntmps14
  go_wp2_with fail
  refine (all_any (H.out.gr ((Ke.refl _ w).alloc _)) T.out).mono ?_
  rintro x w1 ⟨rfl, g1⟩
  have q0 : w1.cell? ⟨w.heap.size, 0, none⟩ = some (.int .i64 0) := kcell g1 (by simp [go_sem])
  have q1 : w1.cell? ⟨w.heap.size, 1, none⟩ = some (.int .i64 0) := kcell g1 (by simp [go_sem])
  have f0 : w1.frozen? ⟨w.heap.size, 0, none⟩ = false := kfz g1 (by simp) (by simp [go_sem])
  have f1 : w1.frozen? ⟨w.heap.size, 1, none⟩ = false := kfz g1 (by simp) (by simp [go_sem])
  have K : Hid (Gr w w1) := ((Ke.refl _ w).alloc _).gr g1
  clear g1
  go_wp2
  exact bodyPost_ret (v := .agg #[.int .i64 N, .int .i64 D]) (by simp [results, Try.results14, go_sem, q0, q1]) rfl ⟨rfl, (K.out.set (.inr (by simp)) _).set (.inr (by simp)) _⟩
/-- Lcm. -/
theorem lcm_any' {N D M : Int} (h : Led w S p k L) (t : Tot L N D M) : Calls Try.prog 16 #[.pointer (some ⟨p, 0, none⟩)] w fun x w' => x = .returned (.int .i64 M) ∧ Gr w w' := by
  have H := Lib.hid h
  have T := Lib.hid t
  have F1 := field1
  clear h t
  go_enter Try.func16, Try.ntmps16
  go_wp2_with fail
  refine (all_any H.out T.out).mono ?_
  rintro x w1 ⟨rfl, g1⟩
  have K := Lib.hid g1
  clear g1
  go_wp2
  go_ret
  exact ⟨rfl, K.out⟩
/-- Len. -/
theorem len_any' {n : Nat} (h : Led w S p k L) (hn : L.length = n) : Calls Try.prog 13 #[.pointer (some ⟨p, 0, none⟩)] w fun x w' => x = .returned (.int .i64 (n : Nat)) ∧ w' = w := by
  obtain ⟨c, _, ⟨⟨s0, s1, s2, a⟩, rfl, _⟩ | ⟨b1, b2, a, _⟩⟩ := h
  · have c1 := a.c1
    have HL := fun w => Maps.len_nil (P := Try.prog) (w := w) (t := 51) Try.underlying51
    simp at hn
    subst hn
    clear a
    go_enter Try.func13, Try.ntmps13
    go_wp2
    go_ret
    exact ⟨rfl, rfl⟩
  · obtain ⟨s0, s1, s2, a0, ht⟩ := a.ex
    obtain ⟨D1, o1, m1⟩ := a.o1
    have OW := Lib.hid o1
    have SZ := Lib.hid (m1.size.trans hn)
    have c1 := a0.c1
    clear a0 a ht o1 m1 hn
    go_enter Try.func13, Try.ntmps13
    go_wp2_with (at_len; refine wpList_len_own _ rfl _ 51 rfl 3 59 Try.underlying51 tkElem b1 _ D1 rfl OW.out ?_; rw [SZ.out])
    go_ret
    exact ⟨rfl, rfl⟩
end
/-- New. -/
abbrev LO (c : Int) : Obj := .cells #[.int .i64 c, .map none, .map none, .int .i64 0, .int .i64 0, .int .i64 0] 56
theorem new_any (c : Int) (w : World) : Calls Try.prog 8 #[.int .i64 c] w fun x w' => x = .returned (.pointer (some ⟨w.heap.size, 0, none⟩)) ∧ w' = w.alloc (LO c) := by
  go_enter Try.func8, Try.ntmps8
  go_wp2
  go_ret
  exact ⟨rfl, rfl⟩
theorem led_new (c : Int) (w : World) : Led (w.alloc (LO c)) (fun g => g = w.heap.size) w.heap.size (cut c) [] :=
  ⟨c, rfl, .inl ⟨⟨0, 0, 0, by simp [go_sem], by simp [go_sem], by simp [go_sem], by simp [go_sem], by simp [go_sem], by simp [go_sem], fun o => by simp [go_sem]⟩, rfl, rfl⟩⟩
end Go.Proofs.Ytbimaaknjedonaa
