/- The heap as a law's walk uses it: what it holds by slot; contracts of Put, Top, Pop, Drop, Len, New. -/
import Derived.Test.YtlpjojegdnconaaDoorM6
namespace Go.Proofs.YtlpjojegdnconaaDoor.Ca
open Go.RowKit Go.Lib
set_option linter.unusedVariables false
set_option maxRecDepth 100000

/-- The heap at p, of kind k, has the n ranks M; its blocks are F. -/
def St (w : World) (base p : Nat) (k : Int) (F : Nat → Prop) (n : Nat) (M : Nat → Option Rk) : Prop :=
  ∃ v u T L S, Mem w base p k v u n T L S ∧ Idx T n S L n ∧ Hp k T n ∧ Has T n M ∧ F = Foot p v u
/-- Only blocks of F were turned; those of F' are of F, or new. -/
structure Sv (F F' : Nat → Prop) (w w' : World) : Prop where
  ke : Ke F w w'
  ft : ∀ g, F' g → F g ∨ w.heap.size ≤ g
section
variable {w w' : World} {base p : Nat} {k : Int} {F : Nat → Prop} {n : Nat} {M : Nat → Option Rk}
theorem St.lt (h : St w base p k F n M) {g : Nat} (hg : F g) : base ≤ g ∧ g < w.heap.size := by
  obtain ⟨v, u, T, L, S, m, x, o, c, rfl⟩ := h
  exact m.lt hg
theorem St.gr (h : St w base p k F n M) (g : Gr w w') : St w' base p k F n M := by
  obtain ⟨v, u, T, L, S, m, x, o, c, rfl⟩ := h
  exact ⟨v, u, T, L, S, m.gr g, x, o, c, rfl⟩
/-- Other blocks turned. -/
theorem St.ke {G : Nat → Prop} (h : St w base p k F n M) (g : Ke G w w') (hG : ∀ j, F j → ¬ G j) : St w' base p k F n M := by
  obtain ⟨v, u, T, L, S, m, x, o, c, rfl⟩ := h
  exact ⟨v, u, T, L, S, m.ke g hG, x, o, c, rfl⟩
theorem Sv.refl (F : Nat → Prop) (w : World) : Sv F F w w := ⟨Ke.refl _ _, fun g h => .inl h⟩
theorem Sv.of_gr {F : Nat → Prop} (g : Gr w w') : Sv F F w w' := ⟨Ke.of_gr g, fun g h => .inl h⟩
theorem Sv.trans {F G H : Nat → Prop} {a b c : World} (h : Sv F G a b) (g : Sv G H b c) : Sv F H a c := by
  refine ⟨⟨g.ke.os.trans h.ke.os, g.ke.tape.trans h.ke.tape, g.ke.output.trans h.ke.output, Nat.le_trans h.ke.size g.ke.size, fun j hj hn => (g.ke.block j (Nat.lt_of_lt_of_le hj h.ke.size) (fun q => ?_)).trans (h.ke.block j hj hn)⟩, fun x hx => ?_⟩
  · rcases h.ft j q with e | e
    · exact hn e
    · omega
  · rcases g.ft x hx with e | e
    · exact h.ft x e
    · exact .inr (Nat.le_trans h.ke.size e)

theorem Idx.sz {T : Nat → En} {S : Nat → Nat} {L L' : Nat} (x : Idx T n S L n) (hL : L ≤ L') : Idx T n (Sz S L) L' n :=
  ⟨fun i hi => Nat.lt_of_lt_of_le (x.lt i hi) hL, fun i hi q => by simp only [Sz, x.lt i hi, if_true]; exact x.at_ i hi q, x.inj, fun y hy ho => by
    unfold Sz
    split
    · rename_i q; exact x.out y q ho
    · rfl⟩

/-- A slot that is none. -/
theorem st_put_bad (h : St w base p k F n M) (s : Int) (hs : s < 0 ∨ 65536 ≤ s) (r : Rk) : Calls Tryd.prog 63 #[.pointer (some ⟨p, 0, none⟩), .int .i64 s, V r] w fun e w' => e = .returned (.int .i64 2) ∧ Gr w w' := by
  obtain ⟨d, b, g, i⟩ := r
  clear h
  by_cases h0 : s < 0
  · have d0 : decide (s < 0) = true := by simp [h0]
    clear hs
    go_enter Tryd.func63, Tryd.ntmps63
    go_wp2
    go_ret
    exact ⟨rfl, (Ke.refl _ _).alloc _⟩
  · have d0 : decide (s < 0) = false := by simp; omega
    have d1 : decide (65536 ≤ s) = true := by simp; omega
    clear hs h0
    go_enter Tryd.func63, Tryd.ntmps63
    go_wp2
    go_ret
    exact ⟨rfl, (Ke.refl _ _).alloc _⟩

/-- A slot that has a rank gets another. -/
theorem st_put_old (h : St w base p k F n M) (s : Nat) (h6 : s < 65536) (r r0 : Rk) (hM : M s = some r0) : Calls Tryd.prog 63 #[.pointer (some ⟨p, 0, none⟩), .int .i64 s, V r] w fun e w' => e = .returned (.int .i64 0) ∧ St w' base p k F n (upd M s (some r)) ∧ Ke F w w' := by
  obtain ⟨v, u, T, L, S, m, x, o, c, rfl⟩ := h
  obtain ⟨i, hi, hT⟩ := (c s r0).1 hM
  have hTs : (T i).s = s := by rw [hT]
  have C1 : Hid (∀ W, Gr w W → Calls Tryd.prog 81 #[.pointer (some ⟨p, 0, none⟩), .int .i64 s] W fun e w' => e = .returned (.tuple #[.int .i64 i, .bool true]) ∧ w' = W) := fun W g => by
    rw [← hTs]; exact find_some W base p k v u n T L S (m.gr g) x i hi
  have C2 : Hid (∀ W, Gr w W → Calls Tryd.prog 83 #[.pointer (some ⟨p, 0, none⟩), .int .i64 i, VE ⟨s, r⟩] W fun e w' => e = .returned (.tuple #[]) ∧ Calls Tryd.prog 84 #[.pointer (some ⟨p, 0, none⟩), .int .i64 i] w' fun e w'' => e = .returned (.tuple #[]) ∧ St w'' base p k (Foot p v u) n (upd M s (some r)) ∧ Ke (Foot p v u) w w'') := fun W g => by
    have hsL : (⟨s, r⟩ : En).s < L := by have := x.lt i hi; rw [hTs] at this; exact this
    refine (set_any W base p k v u n T L S (m.gr g) i hi ⟨s, r⟩ hsL).mono ?_
    rintro e W2 ⟨rfl, m2, k2⟩
    refine ⟨rfl, ?_⟩
    have hS := x.at_ i hi (by omega)
    rw [hTs] at hS
    have m3 : Mem W2 base p k v u n (upd T i ⟨s, r⟩) L S := m2.congrF (by rw [← hS]; exact (upd_self S s).symm)
    have x3 := x.put hi r
    have c3 := c.put x hi r
    rw [hTs] at x3 c3
    refine (settle_any W2 base p k v u n _ L S m3 x3 i (up_start o hi ⟨s, r⟩)).mono ?_
    rintro e W3 ⟨rfl, T2, S2, m4, o4, x4, sm, k4⟩
    exact ⟨rfl, ⟨v, u, T2, L, S2, m4, x4, o4, c3.same sm, rfl⟩, ((Ke.of_gr g).trans k2).trans k4⟩
  have hn6 := m.n6
  clear m x o c hT hTs hM
  obtain ⟨d, b, g, i'⟩ := r
  have d0 : decide ((s : Int) < 0) = false := by simp
  have d1 : decide (65536 ≤ (s : Int)) = false := by simp; omega
  go_enter Tryd.func63, Tryd.ntmps63
  go_wp2_with fail
  refine (C1.out _ ((Ke.refl _ _).alloc _)).mono ?_
  rintro e w1 ⟨rfl, hw⟩
  obtain rfl := hw.symm
  clear hw C1
  go_wp2_with fail
  refine (C2.out _ ((Ke.refl _ _).alloc _)).mono ?_
  rintro e w2 ⟨rfl, C3⟩
  have CC := Lib.hid C3
  clear C3 C2
  go_wp2_with fail
  refine CC.out.mono ?_
  rintro e w3 ⟨rfl, P⟩
  have PP := Lib.hid P
  clear P CC
  go_wp2
  go_ret
  exact ⟨rfl, PP.out⟩

/-- One more. -/
theorem st_put_new (h : St w base p k F n M) (s : Nat) (h6 : s < 65536) (r : Rk) (hM : M s = none) : Calls Tryd.prog 63 #[.pointer (some ⟨p, 0, none⟩), .int .i64 s, V r] w fun e w' => e = .returned (.int .i64 0) ∧ ∃ F', St w' base p k F' (n + 1) (upd M s (some r)) ∧ Sv F F' w w' := by
  obtain ⟨v, u, T, L, S, m, x, o, c, rfl⟩ := h
  have ho := c.none.1 hM
  have hn : n + 1 ≤ 65536 := by
    have x1 := (x.sz (L' := 65536) m.l6).new r h6 ho
    exact x1.le
  have C1 : Hid (∀ W, Gr w W → Calls Tryd.prog 81 #[.pointer (some ⟨p, 0, none⟩), .int .i64 s] W fun e w' => e = .returned (.tuple #[.int .i64 0, .bool false]) ∧ w' = W) := fun W g => by
    refine find_none W base p k v u n T L S (m.gr g) s ?_
    rcases Nat.lt_or_ge s L with q | q
    · exact .inr (.inr ⟨s, rfl, q, x.out s q ho⟩)
    · exact .inr (.inl (by omega))
  have C2 : Hid (∀ W, Gr w W → Calls Tryd.prog 82 #[.pointer (some ⟨p, 0, none⟩), .int .i64 s] W fun e w' => e = .returned (.int .i64 n) ∧ Gr w' w' ∧
      (∀ W', Gr w' W' → Calls Tryd.prog 83 #[.pointer (some ⟨p, 0, none⟩), .int .i64 n, VE ⟨s, r⟩] W' fun e w'' => e = .returned (.tuple #[]) ∧ Calls Tryd.prog 84 #[.pointer (some ⟨p, 0, none⟩), .int .i64 n] w'' fun e w3 => e = .returned (.tuple #[]) ∧ ∃ F', St w3 base p k F' (n + 1) (upd M s (some r)) ∧ Sv (Foot p v u) F' w w3) ∧ ∀ a : Addr, a.block < W.heap.size → ¬ Foot p v u a.block → w'.cell? a = W.cell? a) := fun W g => by
    have A : Calls Tryd.prog 82 #[.pointer (some ⟨p, 0, none⟩), .int .i64 s] W fun x w' => AddP W base p k v u n T L S s x w' := by
      rcases Nat.lt_or_ge s L with q | q
      · exact add_full W base p k v u n T L S (m.gr g) s q hn
      · exact add_more W base p k v u n T L S (m.gr g) s q h6 hn
    refine A.mono ?_
    rintro e W1 ⟨v', u', L', rfl, m1, hsL, hLL, k1, f1⟩
    refine ⟨rfl, Ke.refl _ _, fun W1' g1 => ?_, fun a ha hf => k1.cell ha hf⟩
    refine (set_any W1' base p k v' u' (n + 1) _ L' _ (m1.gr g1) n (by omega) ⟨s, r⟩ hsL).mono ?_
    rintro e W2 ⟨rfl, m2, k2⟩
    refine ⟨rfl, ?_⟩
    have m3 : Mem W2 base p k v' u' (n + 1) (upd T n ⟨s, r⟩) L' (upd (Sz S L) s (n + 1)) := m2.congrT (fun i hi => by
      by_cases e : i = n
      · subst e; rw [upd_same, upd_same]
      · rw [upd_other _ _ e, upd_other _ _ e, upd_other _ _ e])
    have x2 := ((x.sz hLL).new r hsL ho).fill (by omega)
    rw [upd_same] at x2
    refine (settle_any W2 base p k v' u' (n + 1) _ L' _ m3 x2 n (up_start_new o ⟨s, r⟩)).mono ?_
    rintro e W3 ⟨rfl, T2, S2, m4, o4, x4, sm, k4⟩
    refine ⟨rfl, Foot p v' u', ⟨v', u', T2, L', S2, m4, x4, o4, (c.new hM r).same sm, rfl⟩, ?_⟩
    have s1 : Sv (Foot p v u) (Foot p v' u') w W1 := (Sv.of_gr g).trans ⟨k1, f1⟩
    exact s1.trans ⟨((Ke.of_gr g1).trans k2).trans k4, fun g hg => .inl hg⟩
  have nb : Hid (¬ Foot p v u w.heap.size) := fun q => by have := (m.lt q).2; omega
  clear m x o c hM ho
  obtain ⟨d, b, g, i'⟩ := r
  have d0 : decide ((s : Int) < 0) = false := by simp
  have d1 : decide (65536 ≤ (s : Int)) = false := by simp; omega
  go_enter Tryd.func63, Tryd.ntmps63
  go_wp2_with fail
  refine (C1.out _ ((Ke.refl _ _).alloc _)).mono ?_
  rintro e w1 ⟨rfl, hw⟩
  obtain rfl := hw.symm
  clear hw C1
  go_wp2_with fail
  refine (C2.out _ ((Ke.refl _ _).alloc _)).mono ?_
  rintro e w2 ⟨rfl, gg, C3, cc⟩
  have b0 := cc ⟨w.heap.size, 0, none⟩ (by simp) nb.out
  have b1 := cc ⟨w.heap.size, 1, none⟩ (by simp) nb.out
  have b2 := cc ⟨w.heap.size, 2, none⟩ (by simp) nb.out
  have b3 := cc ⟨w.heap.size, 3, none⟩ (by simp) nb.out
  have CC := Lib.hid C3
  clear C3 C2 gg cc
  go_wp2_with fail
  refine (CC.out _ (Ke.refl _ _)).mono ?_
  rintro e w3 ⟨rfl, C4⟩
  have C5 := Lib.hid C4
  clear C4 CC b0 b1 b2 b3
  go_wp2_with fail
  refine C5.out.mono ?_
  rintro e w4 ⟨rfl, P⟩
  have PP := Lib.hid P
  clear P C5
  go_wp2
  go_ret
  exact ⟨rfl, PP.out⟩

theorem st_len (h : St w base p k F n M) : Calls Tryd.prog 92 #[.pointer (some ⟨p, 0, none⟩)] w fun e w' => e = .returned (.int .i64 n) ∧ w' = w := by
  obtain ⟨v, u, T, L, S, m, x, o, c, rfl⟩ := h
  exact len_any w base p k v u n T L S m

/-- The first of those in M. -/
structure First (k : Int) (M : Nat → Option Rk) (s : Nat) (r : Rk) : Prop where
  has : M s = some r
  fst : ∀ s' r', M s' = some r' → s' ≠ s → ahead k ⟨s, r⟩ ⟨s', r'⟩ = true

theorem st_first (h : St w base p k F n M) (hn : 0 < n) : ∃ s r, First k M s r ∧ s < 65536 := by
  obtain ⟨v, u, T, L, S, m, x, o, c, rfl⟩ := h
  refine ⟨(T 0).s, (T 0).r, ⟨c.at_ hn, fun s' r' h' hne => ?_⟩, by have := x.lt 0 hn; have := m.l6; omega⟩
  obtain ⟨i, hi, e⟩ := (c s' r').1 h'
  have := hp_first o i hi
  rw [e] at this
  exact ahead_total k _ _ hne this
theorem First.unique {s s' : Nat} {r r' : Rk} (h : First k M s r) (g : First k M s' r') : s = s' ∧ r = r' := by
  by_cases e : s = s'
  · subst e
    have := h.has
    rw [g.has] at this
    cases this
    exact ⟨rfl, rfl⟩
  · have a := h.fst s' r' g.has (Ne.symm e)
    have b := g.fst s r h.has e
    rw [ahead_asymm k _ _ a] at b
    cases b
theorem st_zero (h : St w base p k F 0 M) (s : Nat) : M s = none := by
  obtain ⟨v, u, T, L, S, m, x, o, c, rfl⟩ := h
  exact c.none.2 (fun i hi => by omega)

theorem st_top_none (h : St w base p k F 0 M) : Calls Tryd.prog 76 #[.pointer (some ⟨p, 0, none⟩)] w fun e w' => e = TopV 0 ⟨0, 0, 0, 0⟩ false ∧ Gr w w' := by
  obtain ⟨v, u, T, L, S, m, x, o, c, rfl⟩ := h
  exact top_none w base p k v u T L S m
theorem st_top (h : St w base p k F n M) (s : Nat) (r : Rk) (hf : First k M s r) : Calls Tryd.prog 76 #[.pointer (some ⟨p, 0, none⟩)] w fun e w' => e = TopV s r true ∧ Gr w w' := by
  have hn : 0 < n := by
    rcases Nat.eq_zero_or_pos n with e | e
    · subst e
      have q := hf.has
      rw [st_zero h s] at q
      cases q
    · exact e
  have h' := h
  obtain ⟨v, u, T, L, S, m, x, o, c, rfl⟩ := h
  have f2 : First k M (T 0).s (T 0).r := ⟨c.at_ hn, fun s' r' h' hne => by
    obtain ⟨i, hi, e⟩ := (c s' r').1 h'
    have := hp_first o i hi
    rw [e] at this
    exact ahead_total k _ _ hne this⟩
  obtain ⟨e1, e2⟩ := hf.unique f2
  rw [e1, e2]
  exact top_some w base p k v u n T L S m hn

theorem st_remove (h : St w base p k F (n + 1) M) (T : Nat → En) {v u : Value} {L : Nat} {S : Nat → Nat} (m : Mem w base p k v u (n + 1) T L S) (x : Idx T (n + 1) S L (n + 1)) (o : Hp k T (n + 1)) (c : Has T (n + 1) M) (hF : F = Foot p v u) (i : Nat) (hi : i < n + 1) :
    Calls Tryd.prog 93 #[.pointer (some ⟨p, 0, none⟩), .int .i64 i] w fun e w' => e = .returned (.tuple #[]) ∧ St w' base p k F n (upd M (T i).s none) ∧ Ke F w w' := by
  subst hF
  obtain ⟨g, cap, rfl, bg, lg, nc, cm⟩ := m.tr.form (by omega)
  refine (remove_any w base p k g cap u n T L S m x o i hi).mono ?_
  rintro e w' ⟨rfl, T2, S2, m2, o2, x2, sm, k2⟩
  exact ⟨rfl, ⟨_, u, T2, L, S2, m2, x2, o2, (c.drop x hi).same sm, rfl⟩, k2⟩

theorem st_pop_none (h : St w base p k F 0 M) : Calls Tryd.prog 77 #[.pointer (some ⟨p, 0, none⟩)] w fun e w' => e = TopV 0 ⟨0, 0, 0, 0⟩ false ∧ Gr w w' := by
  have C := Lib.hid (fun W (g : Gr w W) => st_top_none (h.gr g))
  clear h
  go_enter Tryd.func77, Tryd.ntmps77
  go_wp2_with fail
  refine (C.out _ ((Ke.refl _ _).alloc _)).mono ?_
  rintro e w1 ⟨rfl, g1⟩
  have b0 := gcell (a := ⟨w.heap.size, 0, none⟩) g1 (by simp [go_sem]; rfl)
  have b1 := gcell (a := ⟨w.heap.size, 1, none⟩) g1 (by simp [go_sem]; rfl)
  have b2 := gcell (a := ⟨w.heap.size, 2, none⟩) g1 (by simp [go_sem]; rfl)
  have b3 := gcell (a := ⟨w.heap.size, 3, none⟩) g1 (by simp [go_sem]; rfl)
  have z : ∀ o, w1.frozen? ⟨w.heap.size, o, none⟩ = false := fun o => (g1.frozen (p := ⟨w.heap.size, o, none⟩) (by simp) (fun q => q)).trans (by simp)
  have z0 := z 0
  have z1 := z 1
  have z2 := z 2
  have z3 := z 3
  have G1 := Lib.hid (((Ke.refl (fun _ => False) w).alloc _).trans g1)
  have hlt : w.heap.size < w1.heap.size := by have := g1.size; simp at this; omega
  clear g1 z C
  go_wp2
  go_region
  all_goals
    go_wp2
    refine bodyPost_ret (v := .tuple #[.int .i64 0, V ⟨0, 0, 0, 0⟩, .bool false]) (by simp [results, Tryd.results77, go_sem, *]) rfl ⟨rfl, ?_⟩
    repeat (first | exact G1.out | with_reducible apply Ke.drew | with_reducible apply Ke.alloc | with_reducible refine Ke.set ?_ (.inr (by simp; try omega)) _)

theorem st_pop (h : St w base p k F (n + 1) M) (s : Nat) (r : Rk) (hf : First k M s r) : Calls Tryd.prog 77 #[.pointer (some ⟨p, 0, none⟩)] w fun e w' => e = TopV s r true ∧ St w' base p k F n (upd M s none) ∧ Ke F w w' := by
  have C := Lib.hid (fun W (g : Gr w W) => st_top (h.gr g) s r hf)
  have D : Hid (∀ W, Gr w W → Calls Tryd.prog 93 #[.pointer (some ⟨p, 0, none⟩), .int .i64 0] W fun e w' => e = .returned (.tuple #[]) ∧ St w' base p k F n (upd M s none) ∧ Ke F W w') := fun W g => by
    have h' := h.gr g
    obtain ⟨v, u, T, L, S, m, x, o, c, hF⟩ := h.gr g
    have f2 : First k M (T 0).s (T 0).r := ⟨c.at_ (by omega), fun s' r' h' hne => by
      obtain ⟨i, hi, e⟩ := (c s' r').1 h'
      have := hp_first o i hi
      rw [e] at this
      exact ahead_total k _ _ hne this⟩
    have := st_remove h' T m x o c hF 0 (by omega)
    rw [← (hf.unique f2).1] at this
    exact this
  have nb : Hid (∀ j, w.heap.size ≤ j → ¬ F j) := fun j hj q => by have := (h.lt q).2; omega
  clear h hf
  obtain ⟨d, b, g, i⟩ := r
  go_enter Tryd.func77, Tryd.ntmps77
  go_wp2_with fail
  refine (C.out _ ((Ke.refl _ _).alloc _)).mono ?_
  rintro e w1 ⟨rfl, g1⟩
  have b0 := gcell (a := ⟨w.heap.size, 0, none⟩) g1 (by simp [go_sem]; rfl)
  have b1 := gcell (a := ⟨w.heap.size, 1, none⟩) g1 (by simp [go_sem]; rfl)
  have b2 := gcell (a := ⟨w.heap.size, 2, none⟩) g1 (by simp [go_sem]; rfl)
  have b3 := gcell (a := ⟨w.heap.size, 3, none⟩) g1 (by simp [go_sem]; rfl)
  have z : ∀ o, w1.frozen? ⟨w.heap.size, o, none⟩ = false := fun o => (g1.frozen (p := ⟨w.heap.size, o, none⟩) (by simp) (fun q => q)).trans (by simp)
  have G1 := Lib.hid (((Ke.refl (fun _ => False) w).alloc _).trans g1)
  have hlt : w.heap.size < w1.heap.size := by have := g1.size; simp at this; omega
  have Z := Lib.hid z
  clear g1 z C
  go_wp2_with fail
  refine (D.out _ (G1.out.alloc _)).mono ?_
  rintro e w2 ⟨rfl, S2, K2⟩
  have y0 := (K2.cell (p := ⟨w.heap.size, 0, none⟩) (by simp; omega) (nb.out _ (Nat.le_refl _))).trans (Below.cell ((Below.refl w1.heap.size w1).alloc (Nat.le_refl _) _) (p := ⟨w.heap.size, 0, none⟩) hlt |>.trans b0)
  have y1 := (K2.cell (p := ⟨w.heap.size, 1, none⟩) (by simp; omega) (nb.out _ (Nat.le_refl _))).trans (Below.cell ((Below.refl w1.heap.size w1).alloc (Nat.le_refl _) _) (p := ⟨w.heap.size, 1, none⟩) hlt |>.trans b1)
  have y2 := (K2.cell (p := ⟨w.heap.size, 2, none⟩) (by simp; omega) (nb.out _ (Nat.le_refl _))).trans (Below.cell ((Below.refl w1.heap.size w1).alloc (Nat.le_refl _) _) (p := ⟨w.heap.size, 2, none⟩) hlt |>.trans b2)
  have y3 := (K2.cell (p := ⟨w.heap.size, 3, none⟩) (by simp; omega) (nb.out _ (Nat.le_refl _))).trans (Below.cell ((Below.refl w1.heap.size w1).alloc (Nat.le_refl _) _) (p := ⟨w.heap.size, 3, none⟩) hlt |>.trans b3)
  have zz : ∀ o, w2.frozen? ⟨w.heap.size, o, none⟩ = false := fun o => ((K2.frozen (p := ⟨w.heap.size, o, none⟩) (by simp; omega) (nb.out _ (Nat.le_refl _))).trans (Below.frozen ((Below.refl w1.heap.size w1).alloc (Nat.le_refl _) _) (p := ⟨w.heap.size, o, none⟩) hlt)).trans (Z.out o)
  have x0 := (K2.cell (p := ⟨w1.heap.size, 0, none⟩) (by simp) (nb.out _ (Nat.le_of_lt hlt))).trans (by simp [go_sem]; rfl)
  have x1 := (K2.cell (p := ⟨w1.heap.size, 1, none⟩) (by simp) (nb.out _ (Nat.le_of_lt hlt))).trans (by simp [go_sem]; rfl)
  have x2 := (K2.cell (p := ⟨w1.heap.size, 2, none⟩) (by simp) (nb.out _ (Nat.le_of_lt hlt))).trans (by simp [go_sem]; rfl)
  have x3 := (K2.cell (p := ⟨w1.heap.size, 3, none⟩) (by simp) (nb.out _ (Nat.le_of_lt hlt))).trans (by simp [go_sem]; rfl)
  have z0 := zz 0
  have z1 := zz 1
  have z2 := zz 2
  have z3 := zz 3
  have SS := Lib.hid S2
  have KK := Lib.hid ((Ke.of_gr (F := F) (G1.out.alloc _)).trans K2)
  have hne : ¬ w1.heap.size = w.heap.size := by omega
  clear b0 b1 b2 b3 zz S2 K2 D Z
  go_wp2
  go_region
  all_goals
    go_wp2
    refine bodyPost_ret (v := .tuple #[.int .i64 s, V ⟨d, b, g, i⟩, .bool true]) (by simp [results, Tryd.results77, go_sem, *]) rfl ⟨rfl, ?_, ?_⟩
    · refine SS.out.ke (G := fun j => j = w.heap.size) ?_ (fun j hj e => nb.out j (by omega) hj)
      repeat (first | exact Ke.refl _ _ | with_reducible apply Ke.drew | with_reducible refine Ke.set ?_ (.inl (by simp)) _)
    · repeat (first | exact KK.out | with_reducible apply Ke.drew | with_reducible refine Ke.set ?_ (.inr (Nat.le_refl _)) _)

theorem st_drop_none (h : St w base p k F n M) (slot : Int) (hs : ∀ s : Nat, slot = s → M s = none) : Calls Tryd.prog 85 #[.pointer (some ⟨p, 0, none⟩), .int .i64 slot] w fun e w' => e = .returned (.bool false) ∧ w' = w := by
  obtain ⟨v, u, T, L, S, m, x, o, c, rfl⟩ := h
  have C := Lib.hid (find_none w base p k v u n T L S m slot (by
    by_cases h0 : slot < 0
    · exact .inl h0
    · by_cases h1 : (L : Int) ≤ slot
      · exact .inr (.inl h1)
      · refine .inr (.inr ⟨slot.toNat, by omega, by omega, x.out _ (by omega) (c.none.1 (hs _ (by omega)))⟩)))
  clear m x o c hs
  go_enter Tryd.func85, Tryd.ntmps85
  go_wp2_with fail
  refine C.out.mono ?_
  rintro e w1 ⟨rfl, hw⟩
  obtain rfl := hw.symm
  clear C hw
  go_wp2
  go_ret
  exact ⟨rfl, rfl⟩

theorem st_drop (h : St w base p k F (n + 1) M) (s : Nat) (r : Rk) (hM : M s = some r) : Calls Tryd.prog 85 #[.pointer (some ⟨p, 0, none⟩), .int .i64 s] w fun e w' => e = .returned (.bool true) ∧ St w' base p k F n (upd M s none) ∧ Ke F w w' := by
  have h' := h
  obtain ⟨v, u, T, L, S, m, x, o, c, hF⟩ := h
  obtain ⟨i, hi, hT⟩ := (c s r).1 hM
  have hTs : (T i).s = s := by rw [hT]
  have C1 := find_some w base p k v u (n + 1) T L S m x i hi
  have C2 := st_remove h' T m x o c hF i hi
  rw [hTs] at C1 C2
  have D1 := Lib.hid C1
  have D2 := Lib.hid C2
  have hn6 := m.n6
  clear h' m x o c hF hT hTs C1 C2 hM
  go_enter Tryd.func85, Tryd.ntmps85
  go_wp2_with fail
  refine D1.out.mono ?_
  rintro e w1 ⟨rfl, hw⟩
  obtain rfl := hw.symm
  clear D1 hw
  go_wp2_with fail
  refine D2.out.mono ?_
  rintro e w2 ⟨rfl, P⟩
  have PP := Lib.hid P
  clear D2 P
  go_wp2
  go_ret
  exact ⟨rfl, PP.out⟩

theorem st_new (w : World) (hb : base ≤ w.heap.size) (k : Int) : Calls Tryd.prog 80 #[.int .i64 k] w fun e w' => e = .returned (.pointer (some ⟨w.heap.size, 0, none⟩)) ∧ St w' base w.heap.size k (fun g => g = w.heap.size) 0 (fun _ => none) ∧ Gr w w' := by
  refine (new_any w k).mono ?_
  rintro e w' ⟨rfl, rfl⟩
  refine ⟨rfl, ⟨.slice none 0 0, .slice none 0 0, fun _ => default, 0, fun _ => 0, mem_new w base hb k _ _, ?_, ?_, ?_, ?_⟩, (Ke.refl _ _).alloc _⟩
  · exact ⟨fun i hi => by omega, fun i hi => by omega, fun i hi => by omega, fun x hx => by omega⟩
  · intro j h0 hj; omega
  · intro s r; simp
  · funext g; simp [Foot, Value.ownBlock]
end
end Go.Proofs.YtlpjojegdnconaaDoor.Ca
