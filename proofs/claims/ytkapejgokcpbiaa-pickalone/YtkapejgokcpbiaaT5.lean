/- pick: rows of numbers; contracts of show; the heap's ranks and the tasks that are left. -/
import Derived.Test.YtkapejgokcpbiaaT4
namespace Go.Proofs.Ytkapejgokcpbiaa
open Go.RowKit Go.Lib
set_option linter.unusedVariables false
set_option maxRecDepth 100000
set_option maxHeartbeats 2000000

/-! ### rows of numbers -/
def iR (l : List Int) (j : Nat) : Value := .int .i64 (l.getD j 0)
abbrev RowI (w : World) (base : Nat) (v : Value) (l : List Int) : Prop := Row w base 3 1 v l.length (iR l)
theorem rowI_of {w : World} {base : Nat} {v : Value} {l : List Int} (h : w.ownsRow base 3 1 v l.length (l.map (Value.int .i64))) : RowI w base v l := by
  show w.ownsRow base 3 1 v l.length ((List.range (l.length * 1)).map (iR l))
  rw [show (List.range (l.length * 1)).map (iR l) = l.map (Value.int .i64) from ?_]
  · exact h
  · refine List.ext_getElem (by simp) fun j h1 h2 => ?_
    have hj : j < l.length := by simpa using h2
    simp [iR, List.getD_eq_getElem?_getD, List.getElem?_eq_getElem hj]
theorem rowI_to {w : World} {base : Nat} {v : Value} {l : List Int} (h : RowI w base v l) : w.ownsRow base 3 1 v l.length (l.map (Value.int .i64)) := by
  have h' : w.ownsRow base 3 1 v l.length ((List.range (l.length * 1)).map (iR l)) := h
  rw [show (List.range (l.length * 1)).map (iR l) = l.map (Value.int .i64) from ?_] at h'
  · exact h'
  · refine List.ext_getElem (by simp) fun j h1 h2 => ?_
    have hj : j < l.length := by simpa using h2
    simp [iR, List.getD_eq_getElem?_getD, List.getElem?_eq_getElem hj]
theorem rowI_nil (w : World) (base : Nat) : RowI w base (.slice none 0 0) [] := rowI_of (World.ownsRow_nil _ _ _ _)
theorem rowI_keep {w w' : World} {base : Nat} {v : Value} {l : List Int} {F : Nat → Prop} (h : RowI w base v l) (k : Ke F w w') (hF : ∀ j, v.ownBlock = some j → ¬ F j) : RowI w' base v l := Row.keep h (fun j hj => k.block j (Row.lt h hj).2 (hF j hj))
theorem rowI_gr {w w' : World} {base : Nat} {v : Value} {l : List Int} (h : RowI w base v l) (k : Gr w w') : RowI w' base v l := rowI_keep h k (fun _ _ z => z)
theorem rowI_form {w : World} {base : Nat} {v : Value} {l : List Int} (h : RowI w base v l) : ∃ xa ca, v = .slice xa l.length ca := by
  rcases Row.shape h with ⟨rfl, h0⟩ | ⟨g, cap, rfl, _⟩
  · exact ⟨none, 0, by rw [h0]⟩
  · exact ⟨_, _, rfl⟩
theorem rowI_cell {w : World} {base : Nat} {g cap n : Nat} {l : List Int} (h : RowI w base (.slice (some ⟨g, 0, none⟩) n cap) l) (hn : n = l.length) (j : Nat) (hj : j < l.length) : w.cell? ⟨g, j, none⟩ = some (.int .i64 (l.getD j 0)) := by
  subst hn
  have := Row.cell h j (by omega)
  exact this
theorem info3 : ∃ i, Try.prog.info? 3 = some i ∧ i.size = 1 ∧ i.bytes = 8 ∧ i.zero = some (.int .i64 0) := by
  have h1 : (Try.prog.info? 3).map (·.size) = some 1 := by kernel_rfl
  have h2 : (Try.prog.info? 3).map (·.bytes) = some 8 := by kernel_rfl
  have h3 : (Try.prog.info? 3).map (·.zero) = some (some (.int .i64 0)) := by kernel_rfl
  cases h : Try.prog.info? 3 with
  | none => rw [h] at h1; cases h1
  | some i =>
    rw [h] at h1 h2 h3
    exact ⟨i, rfl, by simpa using h1, by simpa using h2, by simpa using h3⟩
/-- One number more. -/
theorem row_more {w : World} {base : Nat} {v : Value} {l : List Int} (h : RowI w base v l) (hb : base ≤ w.heap.size) (hl : l.length ≤ 1000000) (x : Int) :
    ∃ v' w1, (∀ ty, (Builtin.append_ #[37, 37] ty #[v, .slice (some ⟨w.heap.size, 0, none⟩) 1 1]).run Try.prog (w.alloc (.cells #[.int .i64 x] 3)) = .ok v' w1) ∧ (w.alloc (.cells #[.int .i64 x] 3)).grownBy w1 v.ownBlock ∧ RowI w1 base v' (l ++ [x]) ∧ (v'.ownBlock = v.ownBlock ∨ v'.ownBlock = some (w.heap.size + 1)) := by
  obtain ⟨i, hi, h1, h2, h3⟩ := info3
  have h' := rowI_to (Row.keep h (fun g hg => Below.heap_alloc w (.cells #[.int .i64 x] 3) g (Row.lt h hg).2))
  obtain ⟨v', w1, hr, ho, hg, ha⟩ := append_own_at (P := Try.prog) (w.alloc (.cells #[.int .i64 x] 3)) base 37 37 3 i _ 1 8 Try.underlying37 hi h3 h1 h2 rfl (by omega) v l.length _ h' ⟨w.heap.size, 0, none⟩ 1 1 [.int .i64 x] (by omega) rfl (fun j u hj => by
    rcases j with _ | j
    · cases hj; simp [go_sem, Addr.add]
    · simp at hj) (by simp [Value.oneCell']) (by unfold maxLen; omega) (by omega) (by simp; omega)
  refine ⟨v', w1, fun ty => hr, hg, ?_, by simpa using ha⟩
  refine rowI_of ?_
  rw [List.length_append, List.map_append]
  exact ho

/-! ### show -/
section
variable {w : World} {base hp pt : Nat} {F Ft : Nat → Prop} {m nt : Nat} {M Mt : Nat → Option Rk}
theorem show_none (h : St w base hp 1 F 0 M) (i : Int) : Calls Try.prog 34 #[.pointer (some ⟨pt, 0, none⟩), .int .i64 i, .pointer (some ⟨hp, 0, none⟩)] w fun e w' => e = .returned (.tuple #[]) ∧ Gr w w' := by
  have C := Lib.hid (st_top_none h)
  clear h
  go_enter Try.func34, Try.ntmps34
  go_wp2_with fail
  refine C.out.mono ?_
  rintro e w1 ⟨rfl, g1⟩
  have G1 := Lib.hid g1
  clear g1 C
  go_wp2
  go_end0
  exact ⟨rfl, G1.out.alloc _⟩
theorem show_some (h : St w base hp 1 F m M) {s : Nat} {r : Rk} (hf : First 1 M s r) (t : St w base pt 1 Ft nt Mt) (i : Nat) (hi : i < 65536) (hM : Mt i = none) :
    Calls Try.prog 34 #[.pointer (some ⟨pt, 0, none⟩), .int .i64 i, .pointer (some ⟨hp, 0, none⟩)] w fun e w' => e = .returned (.tuple #[]) ∧ ∃ Ft', St w' base pt 1 Ft' (nt + 1) (upd Mt i (some r)) ∧ Sv Ft Ft' w w' := by
  have C := Lib.hid (st_top h s r hf)
  have D : Hid (∀ W, Gr w W → Calls Try.prog 33 #[.pointer (some ⟨pt, 0, none⟩), .int .i64 i, V r] W fun e w' => e = .returned (.int .i64 0) ∧ ∃ Ft', St w' base pt 1 Ft' (nt + 1) (upd Mt i (some r)) ∧ Sv Ft Ft' w w') := fun W g => by
    refine (st_put_new (t.gr g) i hi r hM).mono ?_
    rintro e w' ⟨rfl, F', a, b⟩
    exact ⟨rfl, F', a, (Sv.of_gr g).trans b⟩
  clear h hf t hM
  obtain ⟨vd, vb, vg, vi⟩ := r
  go_enter Try.func34, Try.ntmps34
  go_wp2_with fail
  refine C.out.mono ?_
  rintro e w1 ⟨rfl, g1⟩
  have G1 := Lib.hid (g1.alloc (.cells #[.int .i64 vd, .int .i64 vb, .int .i64 vg, .int .i64 vi] 32))
  clear g1 C
  go_wp2_with fail
  refine (D.out _ G1.out).mono ?_
  rintro e w2 ⟨rfl, Q⟩
  go_wp2
  go_end0
  exact ⟨rfl, Q⟩
end

/-! ### the heap's ranks and the tasks that are left -/
theorem nodup_at {l : List Nat} (h : l.Nodup) {i j a : Nat} (hi : l[i]? = some a) (hj : l[j]? = some a) : i = j := by
  obtain ⟨l1, g1⟩ := List.getElem?_eq_some_iff.1 hi
  obtain ⟨l2, g2⟩ := List.getElem?_eq_some_iff.1 hj
  have p := List.pairwise_iff_getElem.1 h
  rcases Nat.lt_trichotomy i j with q | q | q
  · exact absurd (g1.trans g2.symm) (p i j l1 l2 q)
  · exact q
  · exact absurd (g2.trans g1.symm) (p j i l2 l1 q)
/-- Slot s of the heap holds the s-th of cl, where it is left. -/
def Hm (cl : List Nat) (key : Nat → Rk) (R : Nat → Bool) (M : Nat → Option Rk) : Prop := ∀ s, M s = (cl[s]?).bind fun a => if R a then some (key a) else none
/-- cl has each of those that may be left once. -/
structure Cl (cl : List Nat) (N : Nat) (R0 : Nat → Bool) : Prop where
  nd : cl.Nodup
  lt : ∀ a, a ∈ cl → a < N
  all : ∀ a, a < N → R0 a = true → a ∈ cl
section
variable {cl : List Nat} {key : Nat → Rk} {R R0 : Nat → Bool} {M : Nat → Option Rk} {N : Nat}
theorem Hm.of (h : Hm cl key R M) {s : Nat} {r : Rk} (e : M s = some r) : ∃ a, cl[s]? = some a ∧ R a = true ∧ key a = r := by
  rw [h s] at e
  cases q : cl[s]? with
  | none => rw [q] at e; cases e
  | some a =>
    rw [q] at e
    simp only [Option.bind_some] at e
    split at e
    · rename_i z; cases e; exact ⟨a, rfl, z, rfl⟩
    · cases e
theorem Hm.at_ (h : Hm cl key R M) (c : Cl cl N R0) (hs : ∀ j, R j = true → R0 j = true) {a : Nat} (ha : a < N) (hR : R a = true) : ∃ s, cl[s]? = some a ∧ M s = some (key a) := by
  obtain ⟨s, hs', e⟩ := List.mem_iff_getElem.1 (c.all a ha (hs a hR))
  have e2 : cl[s]? = some a := by rw [List.getElem?_eq_getElem hs', e]
  refine ⟨s, e2, ?_⟩
  rw [h s, e2]
  simp [hR]
theorem Hm.first (h : Hm cl key R M) (c : Cl cl N R0) (hd : Dis key R N) (hs : ∀ j, R j = true → R0 j = true) {s : Nat} {r : Rk} (f : First 1 M s r) : ∃ a, cl[s]? = some a ∧ key a = r ∧ fstI key R N = some a := by
  obtain ⟨a, e, hR, hk⟩ := h.of f.has
  have haN : a < N := c.lt a (List.mem_of_getElem? e)
  refine ⟨a, e, hk, IsFst.eq hd ⟨haN, hR, fun j hj hRj ne => ?_⟩⟩
  obtain ⟨s', e', hM⟩ := h.at_ c hs hj hRj
  have hne : s' ≠ s := fun q => by subst q; rw [e] at e'; cases e'; exact ne rfl
  have := f.fst s' (key j) hM hne
  rw [ahead_iff] at this
  have l1 : ∀ x y, ltK 1 x y = lessB x y := fun x y => by simp [ltK]
  simp only [l1] at this
  rw [hk]
  rcases this with z | ⟨z, _⟩
  · exact z
  · refine less_total ?_ (by simpa using z)
    rw [← hk]
    exact (hd a j haN hj hR hRj (Ne.symm ne)).symm
theorem Hm.fst (h : Hm cl key R M) (c : Cl cl N R0) (hd : Dis key R N) (hs : ∀ j, R j = true → R0 j = true) {a : Nat} (e : fstI key R N = some a) : ∃ s, cl[s]? = some a ∧ First 1 M s (key a) := by
  have F := fstI_some hd e
  obtain ⟨s, es, hM⟩ := h.at_ c hs F.lt F.on
  refine ⟨s, es, hM, fun s' r' h' ne => ?_⟩
  obtain ⟨b, eb, hRb, rfl⟩ := h.of h'
  have hbN := c.lt b (List.mem_of_getElem? eb)
  have hba : b ≠ a := fun q => by
    subst q
    exact ne (nodup_at c.nd eb es)
  rw [ahead_iff]
  refine .inl ?_
  have l1 : ∀ x y, ltK 1 x y = lessB x y := fun x y => by simp [ltK]
  rw [l1]
  exact F.fst b hbN hRb hba
theorem Hm.cut (h : Hm cl key R M) (c : Cl cl N R0) {s a : Nat} (e : cl[s]? = some a) : Hm cl key (upd R a false) (upd M s none) := fun t => by
  by_cases q : t = s
  · subst q
    rw [upd_same, e]
    simp [upd]
  · rw [upd_other _ _ q, h t]
    cases et : cl[t]? with
    | none => rfl
    | some b =>
      have hba : b ≠ a := fun z => by
        subst z
        exact q (nodup_at c.nd et e)
      simp [upd, hba]
/-- Nobody is left where the heap is empty. -/
theorem Hm.left (h : Hm cl key R M) (c : Cl cl N R0) (hs : ∀ j, R j = true → R0 j = true) (hM : ∀ s, M s = none) : fstI key R N = none := by
  cases e : fstI key R N with
  | none => rfl
  | some a =>
    obtain ⟨h1, h2⟩ := fstI_in e
    obtain ⟨s, _, h3⟩ := h.at_ c hs h1 h2
    rw [hM s] at h3
    cases h3
end
end Go.Proofs.Ytkapejgokcpbiaa
