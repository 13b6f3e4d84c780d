/- Seats in a law: by what each had, and who sits; slices written out; the law's first sentence (awake). -/
import Derived.Test.YtnmdidglfegdcaaDoorD2
namespace Go.Proofs.YtnmdidglfegdcaaDoor
open Go.RowKit Go.Lib Go.Maps Go.Sort
set_option linter.unusedVariables false
set_option maxRecDepth 100000
set_option maxHeartbeats 4000000

theorem Ke.drewN {F : Nat → Prop} {a b : World} (h : Ke F a b) (n : Nat) : Ke F a (b.drewN n) := ⟨h.os, h.tape, h.output, h.size, h.block⟩
abbrev Af := Int → Option Nat
abbrev Nf := Int → Bool
def sitR (k : Nat) (A : Af) (N : Nf) (l : List Int) : List Int := if sitE k l = 0 then sitL k A N l else []
def sitA (k : Nat) (A : Af) (N : Nf) (l : List Int) : Af := if sitE k l = 0 then nxA (sit k A N (rise l)) A else A
def sitN (k : Nat) (A : Af) (N : Nf) (l : List Int) : Nf := if sitE k l = 0 then nxN (sit k A N (rise l)) else N
theorem sitE_zero {k : Nat} {l : List Int} : sitE k l = 0 ↔ l.length ≤ k ∧ l.Nodup := by
  unfold sitE
  by_cases h : k < l.length
  · rw [if_pos h]; exact ⟨fun q => by omega, fun q => by omega⟩
  · rw [if_neg h]
    by_cases d : l.Nodup
    · rw [if_pos d]; exact ⟨fun _ => ⟨by omega, d⟩, fun _ => rfl⟩
    · rw [if_neg d]; exact ⟨fun q => by omega, fun q => absurd q.2 d⟩
/-- Seats at p in a call that began in w0; at most t successful calls of Sit so far. -/
structure SW (w0 w : World) (p bm k t : Nat) (A : Af) (N : Nf) : Prop where
  ex : ∃ u H, u ≤ t ∧ Se w p bm k u H ∧ coreOf H = A ∧ nowOf H u = N
  lp : w0.heap.size ≤ p
  lb : w0.heap.size ≤ bm
  gr : Gr w0 w
  tab : Tab w0
section
variable {w0 w w' : World} {p bm k t : Nat} {A : Af} {N : Nf} {v : Value} {l : List Int}
theorem SW.ok (h : SW w0 w p bm k t A N) : Ok k A N := by
  obtain ⟨u, H, _, se, rfl, rfl⟩ := h.ex
  exact se.ht.ok
theorem SW.kb (h : SW w0 w p bm k t A N) : 1 ≤ k ∧ k ≤ 64 := by
  obtain ⟨u, H, _, se, _⟩ := h.ex
  exact ⟨se.k1, se.k64⟩
theorem SW.lt (h : SW w0 w p bm k t A N) : p < w.heap.size ∧ bm < w.heap.size := by
  obtain ⟨u, H, _, se, _⟩ := h.ex
  exact ⟨se.cs.lt, se.own.lt⟩
theorem SW.gro (h : SW w0 w p bm k t A N) (g : Gr w w') : SW w0 w' p bm k t A N := by
  obtain ⟨u, H, a, se, b⟩ := h.ex
  exact ⟨⟨u, H, a, se.gr g, b⟩, h.lp, h.lb, h.gr.trans g, h.tab⟩
theorem SW.ke {F : Nat → Prop} (h : SW w0 w p bm k t A N) (g : Ke F w w') (h1 : ¬ F p) (h2 : ¬ F bm) (hF : ∀ j, F j → w0.heap.size ≤ j) : SW w0 w' p bm k t A N := by
  obtain ⟨u, H, a, se, b⟩ := h.ex
  exact ⟨⟨u, H, a, se.ke g h1 h2, b⟩, h.lp, h.lb, gr_ke h.gr g hF, h.tab⟩
theorem SW.more {t' : Nat} (h : SW w0 w p bm k t A N) (ht : t ≤ t') : SW w0 w p bm k t' A N := by
  obtain ⟨u, H, a, se, b⟩ := h.ex
  exact ⟨⟨u, H, by omega, se, b⟩, h.lp, h.lb, h.gr, h.tab⟩
theorem SW.tabw (h : SW w0 w p bm k t A N) : Tab w := fun j hj => gcell h.gr (h.tab j hj)
theorem Tab.pos {w : World} (h : Tab w) : 0 < w.heap.size := lt_of_cell (h 0 (by omega))
theorem SW.nt (h : SW w0 w p bm k t A N) : tabB ≠ p ∧ tabB ≠ bm := by
  have := h.tab.pos
  have h1 := h.lp
  have h2 := h.lb
  unfold tabB
  omega
def NewQ (w0 w : World) (k : Nat) (e : Ending) (w' : World) : Prop := ∃ p bm, e = .returned (.pointer (some ⟨p, 0, none⟩)) ∧ SW w0 w' p bm k 0 (fun _ => none) (fun _ => false) ∧ Gr w w' ∧ w.heap.size ≤ p ∧ w.heap.size ≤ bm
theorem sw_new (hT : Tab w0) (g : Gr w0 w) (n : Int) (hk : min (max n 1) 64 = (k : Int)) : Calls Tryd.prog 9 #[.int .i64 n] w fun e w' => NewQ w0 w k e w' := by
  refine (new_any n w k hk).mono ?_
  rintro e w' ⟨p, bm, rfl, se, g1, h1, h2⟩
  exact ⟨p, bm, rfl, ⟨⟨0, _, Nat.le_refl _, se, rfl, rfl⟩, Nat.le_trans g.size h1, Nat.le_trans g.size h2, g.trans g1, hT⟩, g1, h1, h2⟩
theorem sw_last (h : SW w0 w p bm k t A N) (x : Int) (hx : (Lit.int .i64 x).wf = true) : Calls Tryd.prog 14 #[.pointer (some ⟨p, 0, none⟩), .int .i64 x] w fun e w' => e = .returned (.tuple #[.int .i64 ((A x).getD 0 : Nat), .bool (A x).isSome]) ∧ Gr w w' := by
  obtain ⟨u, H, _, se, rfl, rfl⟩ := h.ex
  refine (last_some se x hx).mono ?_
  rintro e w' ⟨rfl, g⟩
  refine ⟨?_, g⟩
  unfold coreOf
  cases H x <;> rfl
theorem sw_forget (h : SW w0 w p bm k t A N) (x : Int) (hx : (Lit.int .i64 x).wf = true) : Calls Tryd.prog 10 #[.pointer (some ⟨p, 0, none⟩), .int .i64 x] w fun e w' => e = .returned (.tuple #[]) ∧ SW w0 w' p bm k t (up A x none) (up N x false) ∧ Ke (fun j => j = bm) w w' := by
  obtain ⟨u, H, hu, se, rfl, rfl⟩ := h.ex
  refine (forget_any se x hx).mono ?_
  rintro e w' ⟨rfl, se', g⟩
  exact ⟨rfl, ⟨⟨u, _, hu, se', core_up H x, now_up H u x⟩, h.lp, h.lb, gr_ke h.gr g (fun j q => by have := h.lb; have q' : j = bm := q; omega), h.tab⟩, g⟩
/-- What Sit leaves. -/
def SitQ (w0 w : World) (p bm k t : Nat) (A : Af) (N : Nf) (l : List Int) (u : Value) (w' : World) : Prop :=
  RowI w' w.heap.size u (sitR k A N l) ∧ SW w0 w' p bm k (t + 1) (sitA k A N l) (sitN k A N l) ∧ Ke (fun j => j = p ∨ j = bm) w w'
theorem sw_sit (h : SW w0 w p bm k t A N) (hv : IdIn w v l) (hf : Off v p bm) (hl : l.length ≤ 9223372036854775807) (hwf : ∀ x ∈ l, (Lit.int .i64 x).wf = true) (ht : t ≤ 5000) :
    Calls Tryd.prog 12 #[.pointer (some ⟨p, 0, none⟩), v] w fun e w' => ∃ u, e = .returned (.tuple #[u, .int .i64 (sitE k l)]) ∧ SitQ w0 w p bm k t A N l u w' := by
  obtain ⟨u, H, hu, se, rfl, rfl⟩ := h.ex
  have hp := se.cs.lt
  by_cases hz : sitE k l = 0
  · obtain ⟨h1, h2⟩ := sitE_zero.1 hz
    refine (sit_ok se hv hf h1 h2 (by omega) hwf h.tabw h.nt).mono ?_
    rintro e w' ⟨r, rfl, row, se', g⟩
    refine ⟨r, by rw [hz], ?_, ⟨⟨u + 1, _, by omega, se', ?_, ?_⟩, h.lp, h.lb, gr_ke h.gr g (fun j q => by have h1 := h.lp; have h2 := h.lb; rcases q with q | q <;> omega), h.tab⟩, g⟩
    · unfold sitR; rw [if_pos hz]; exact row
    · rw [core_mix]; unfold sitA; rw [if_pos hz]
    · rw [now_mix se.ht]; unfold sitN; rw [if_pos hz]
  · have fin : ∀ w', Gr w w' → SitQ w0 w p bm k t (coreOf H) (nowOf H u) l (.slice none 0 0) w' := fun w' g => by
      refine ⟨?_, ?_, g.of_gr⟩
      · unfold sitR; rw [if_neg hz]; exact rowI_nil _ _
      · unfold sitA sitN; rw [if_neg hz, if_neg hz]; exact (h.gro g).more (by omega)
    by_cases hk : k < l.length
    · refine (sit_full se hv hk hl).mono ?_
      rintro e w' ⟨rfl, g⟩
      exact ⟨_, by unfold sitE; rw [if_pos hk], fin w' g⟩
    · have hd : ¬ l.Nodup := fun d => hz (sitE_zero.2 ⟨by omega, d⟩)
      refine (sit_twice se hv (by omega) hd).mono ?_
      rintro e w' ⟨rfl, g⟩
      exact ⟨_, by unfold sitE; rw [if_neg hk, if_neg hd], fin w' g⟩
end
/-- The ids of a list written out. -/
theorem idIn_lit (w : World) (l : List Int) (cs : Array Value) (hcs : cs = (l.map (Value.int .i64)).toArray) (hl : l.length ≤ 1000) (n : Nat) (hn : n = l.length) : IdIn (w.alloc (.cells cs 3)) (.slice (some ⟨w.heap.size, 0, none⟩) n n) l := by
  subst hn
  exact IdIn.of_row (rowI_lit w l cs hcs hl)
theorem off_lit {w : World} {n p bm : Nat} (h1 : p < w.heap.size) (h2 : bm < w.heap.size) : Off (.slice (some ⟨w.heap.size, 0, none⟩) n n) p bm := fun b off m c e _ => by
  cases e; omega
/-- How a row in rising order is dealt out: what is asked of lists written out. -/
theorem rise_of {l m : List Int} (h : l.Perm m) (hm : m.Pairwise (· ≤ ·)) : rise l = m :=
  ((rise_perm l).trans h).eq_of_pairwise (le := fun a b => a ≤ b) (fun a b _ _ h1 h2 => by omega) (rise_le l) hm

theorem sit_lit {k : Nat} (A : Af) (N : Nf) {l m : List Int} (h : l.Perm m) (hm : m.Pairwise (· ≤ ·)) (hl : l.length ≤ k) (hd : l.Nodup) :
    sitE k l = 0 ∧ sitR k A N l = l.map (fun x => ((((sit k A N m).G x).getD 0 : Nat) : Int)) ∧ sitA k A N l = nxA (sit k A N m) A ∧ sitN k A N l = nxN (sit k A N m) := by
  have hz : sitE k l = 0 := sitE_zero.2 ⟨hl, hd⟩
  unfold sitR sitA sitN
  rw [if_pos hz, if_pos hz, if_pos hz, ← rise_of h hm]
  exact ⟨hz, rfl, rfl, rfl⟩
/-- A row of two, of three, opened. -/
theorem row_two {w : World} {base : Nat} {v : Value} {a b : Int} (h : RowI w base v [a, b]) : ∃ g cap, v = .slice (some ⟨g, 0, none⟩) 2 cap ∧ base ≤ g ∧ w.cell? ⟨g, 0, none⟩ = some (.int .i64 a) ∧ w.cell? ⟨g, 1, none⟩ = some (.int .i64 b) := by
  obtain ⟨g, cap, rfl, hb, -⟩ := Row.form h (by simp)
  exact ⟨g, cap, rfl, hb, rowI_cell h rfl 0 (by simp), rowI_cell h rfl 1 (by simp)⟩
theorem row_three {w : World} {base : Nat} {v : Value} {a b c : Int} (h : RowI w base v [a, b, c]) : ∃ g cap, v = .slice (some ⟨g, 0, none⟩) 3 cap ∧ base ≤ g ∧ w.cell? ⟨g, 0, none⟩ = some (.int .i64 a) ∧ w.cell? ⟨g, 1, none⟩ = some (.int .i64 b) ∧ w.cell? ⟨g, 2, none⟩ = some (.int .i64 c) := by
  obtain ⟨g, cap, rfl, hb, -⟩ := Row.form h (by simp)
  exact ⟨g, cap, rfl, hb, rowI_cell h rfl 0 (by simp), rowI_cell h rfl 1 (by simp), rowI_cell h rfl 2 (by simp)⟩

/-! ### awake -/
def A0 : Af := fun _ => none
def N0 : Nf := fun _ => false
def aA1 : Af := nxA (sit 2 A0 N0 [5, 7]) A0
def aN1 : Nf := nxN (sit 2 A0 N0 [5, 7])
theorem awake_true (w : World) (hT : Tab w) : Calls Tryd.prog 8 #[] w fun e w' => e = .returned (.bool true) ∧ Gr w w' := by
  have C := Lib.hid (sw_new (k := 2) hT (Ke.refl _ w) 2 (by decide))
  clear hT
  go_enter Tryd.func8, Tryd.ntmps8
  go_wp2_with fail
  refine C.out.mono ?_
  rintro e w1 ⟨p, bm, rfl, s1, -, -, -⟩
  have s1' : SW w (w1.alloc (.cells #[.int .i64 5, .int .i64 7] 3)) p bm 2 0 A0 N0 := s1.gro ((Ke.refl _ w1).alloc (.cells #[.int .i64 5, .int .i64 7] 3))
  have C1 := Lib.hid (sw_sit s1' (idIn_lit w1 [5, 7] #[.int .i64 5, .int .i64 7] rfl (by decide) 2 rfl) (off_lit s1.lt.1 s1.lt.2) (by decide) (by decide) (by omega))
  obtain ⟨q0, q1, q2, q3⟩ := sit_lit (k := 2) A0 N0 (l := [5, 7]) (m := [5, 7]) (List.Perm.refl _) (by decide) (by decide) (by decide)
  unfold SitQ at C1
  rw [q0, q1, q2, q3, show [5, 7].map (fun x => ((((sit 2 A0 N0 [5, 7]).G x).getD 0 : Nat) : Int)) = [0, 1] from by decide] at C1
  have LT := s1'.lt
  clear C s1 s1' q0 q1 q2 q3
  go_wp2_with fail
  refine C1.out.mono ?_
  rintro e w2 ⟨u, rfl, row2, s2, -⟩
  obtain ⟨g, cap, rfl, hg, k0, k1⟩ := row_two row2
  have s2' : SW w (w2.alloc (.cells #[.int .i64 7, .int .i64 9] 3)) p bm 2 1 aA1 aN1 := s2.gro ((Ke.refl _ w2).alloc (.cells #[.int .i64 7, .int .i64 9] 3))
  have C2 := Lib.hid (sw_sit s2' (idIn_lit w2 [7, 9] #[.int .i64 7, .int .i64 9] rfl (by decide) 2 rfl) (off_lit s2.lt.1 s2.lt.2) (by decide) (by decide) (by omega))
  obtain ⟨q0, q1, q2, q3⟩ := sit_lit (k := 2) aA1 aN1 (l := [7, 9]) (m := [7, 9]) (List.Perm.refl _) (by decide) (by decide) (by decide)
  unfold SitQ at C2
  rw [q0, q1, q2, q3, show [7, 9].map (fun x => ((((sit 2 aA1 aN1 [7, 9]).G x).getD 0 : Nat) : Int)) = [1, 0] from by decide +kernel] at C2
  have hgp : g ≠ p ∧ g ≠ bm := by omega
  have k0' := gcell ((Ke.refl _ w2).alloc (.cells #[.int .i64 7, .int .i64 9] 3)) k0
  have k1' := gcell ((Ke.refl _ w2).alloc (.cells #[.int .i64 7, .int .i64 9] 3)) k1
  clear C1 row2 s2 s2' q0 q1 q2 q3 k0 k1
  go_wp2_with fail
  refine C2.out.mono ?_
  rintro e w3 ⟨u, rfl, row3, s3, k3⟩
  obtain ⟨g', cap', rfl, hg', j0, j1⟩ := row_two row3
  have i0 := (k3.cell (lt_of_cell k0') (fun q => by rcases q with q | q; exact hgp.1 q; exact hgp.2 q)).trans k0'
  have i1 := (k3.cell (lt_of_cell k1') (fun q => by rcases q with q | q; exact hgp.1 q; exact hgp.2 q)).trans k1'
  have S3 := Lib.hid s3
  clear C2 row3 s3 k3 k0' k1'
  go_wp2_with fail
  go_ret
  exact ⟨rfl, S3.out.gr⟩
end Go.Proofs.YtnmdidglfegdcaaDoor
