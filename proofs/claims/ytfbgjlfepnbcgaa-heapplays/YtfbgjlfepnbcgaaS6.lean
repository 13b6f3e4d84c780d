/- The law HeapAnew: its plain half, and walked. -/
import Derived.Test.YtfbgjlfepnbcgaaO6
import Derived.Deep.OwnRows
namespace Go.Proofs.Ytfbgjlfepnbcgaa
open Go.RowKit Go.Lib
set_option linter.unusedVariables false

/-- A slice of numbers that came in: none, or cells of one block. -/
def RowIn (q : IntKind) (w : World) (a : Option Addr) (n : Nat) (z : Nat → Int) : Prop :=
  n = 0 ∨ ∃ b off, a = some ⟨b, off, none⟩ ∧ b < w.heap.size ∧ ∀ i, i < n → w.cell? ⟨b, off + i, none⟩ = some (.int q (z i)) ∧ (Lit.int q (z i)).wf = true

theorem rowIn_of {q : IntKind} {w : World} {a : Option Addr} {len cap : Nat} {zs : List Int}
    (h : (a = none ∧ len = 0 ∧ cap = 0 ∧ zs = []) ∨ ∃ x, a = some x ∧ len ≤ cap ∧ cap ≤ maxLen ∧ zs.length = cap ∧ (∀ i, i < zs.length → w.cell? (x.add i) = some (.int q (zs.getD i 0))) ∧ ∀ n ∈ zs, (Lit.int q n).wf = true) :
    RowIn q w a len (fun i => zs.getD i 0) := by
  rcases h with ⟨_, h, _⟩ | ⟨x, rfl, hl, hm, hz, hc, hw⟩
  · exact .inl h
  · rcases Nat.eq_zero_or_pos len with e | e
    · exact .inl e
    · have h0 := hc 0 (by omega)
      have hsp : x.spot = none := World.cell?_spot (by simpa [Addr.add] using h0)
      have hlt : x.block < w.heap.size := by
        have := lt_of_cell h0
        simpa [Addr.add] using this
      obtain ⟨b, off, sp⟩ := x
      simp only at hsp hlt
      subst hsp
      refine .inr ⟨b, off, rfl, hlt, fun i hi => ⟨?_, ?_⟩⟩
      · have := hc i (by omega)
        have e : (⟨b, off, none⟩ : Addr).add i = ⟨b, off + i, none⟩ := by unfold Addr.add; split <;> simp_all
        rwa [e] at this
      · refine hw _ ?_
        show zs.getD i 0 ∈ zs
        have hi' : i < zs.length := by omega
        rw [List.getD_eq_getElem?_getD, List.getElem?_eq_getElem hi']
        exact List.getElem_mem _

theorem wf_u8 {n : Int} (h : (Lit.int .u8 n).wf = true) : 0 ≤ n ∧ n ≤ 255 := by
  have e1 : IntKind.u8.min = 0 := by decide
  have e2 : IntKind.u8.max = 255 := by decide
  simp [Lit.wf, e1, e2] at h
  omega
theorem wf_i16 {n : Int} (h : (Lit.int .i16 n).wf = true) : -32768 ≤ n ∧ n ≤ 32767 := by
  have e1 : IntKind.i16.min = -32768 := by decide
  have e2 : IntKind.i16.max = 32767 := by decide
  simp [Lit.wf, e1, e2] at h
  omega

theorem Mem.n_le {w : World} {base p : Nat} {k : Int} {F : Nat → Prop} {n : Nat} {M : Nat → Option Rk} (h : St w base p k F n M) : n ≤ 65536 := by
  obtain ⟨v, u, T, L, S, m, _⟩ := h
  exact m.n6
theorem row_ke {F : Nat → Prop} {w w' : World} {b : Nat} {t : TypeId} {n : Nat} {f : Nat → Value} (h : w.rowIs b t n f) (k : Ke F w w') (hn : ¬ F b) : w'.rowIs b t n f := h.of_block (k.block b h.lt hn)
theorem row_set {w : World} {b : Nat} {t : TypeId} {n : Nat} {f : Nat → Value} (h : w.rowIs b t n f) (i : Nat) (v : Value) : (w.setCell ⟨b, i, none⟩ v).rowIs b t n (upd f i v) := h.set i v

/-! ### the least of some that are on -/
def Best (on : Nat → Bool) (at_ : Nat → Int) (j : Nat) (b : Int) : Prop :=
  (b = -1 ∧ ∀ i, i < j → on i = false) ∨ ∃ c : Nat, b = c ∧ c < j ∧ on c = true ∧ ∀ i, i < j → on i = true → i ≠ c → at_ c < at_ i ∨ (at_ c = at_ i ∧ c < i)
theorem Best.start (on : Nat → Bool) (at_ : Nat → Int) : Best on at_ 0 (-1) := .inl ⟨rfl, fun i hi => by omega⟩
theorem Best.off {on : Nat → Bool} {at_ : Nat → Int} {j : Nat} {b : Int} (h : Best on at_ j b) (ho : on j = false) : Best on at_ (j + 1) b := by
  rcases h with ⟨rfl, h⟩ | ⟨c, rfl, hc, hon, h⟩
  · refine .inl ⟨rfl, fun i hi => ?_⟩
    by_cases e : i = j
    · rw [e]; exact ho
    · exact h i (by omega)
  · refine .inr ⟨c, rfl, by omega, hon, fun i hi hoi hne => ?_⟩
    by_cases e : i = j
    · rw [e, ho] at hoi; cases hoi
    · exact h i (by omega) hoi hne
theorem Best.one {on : Nat → Bool} {at_ : Nat → Int} {j : Nat} (h : Best on at_ j (-1)) (ho : on j = true) : Best on at_ (j + 1) (j : Int) := by
  rcases h with ⟨_, h⟩ | ⟨c, hc, _⟩
  · refine .inr ⟨j, rfl, by omega, ho, fun i hi hoi hne => ?_⟩
    have := h i (by omega); rw [hoi] at this; cases this
  · omega
theorem Best.less {on : Nat → Bool} {at_ : Nat → Int} {j c : Nat} (h : Best on at_ j (c : Int)) (ho : on j = true) (hl : at_ j < at_ c) : Best on at_ (j + 1) (j : Int) := by
  rcases h with ⟨h, _⟩ | ⟨c', hc', hlt, hon, h⟩
  · omega
  · obtain rfl : c = c' := by omega
    refine .inr ⟨j, rfl, by omega, ho, fun i hi hoi hne => ?_⟩
    by_cases e : i = c
    · rw [e]; exact .inl hl
    · rcases h i (by omega) hoi e with q | q
      · exact .inl (by omega)
      · exact .inl (by omega)
theorem Best.more {on : Nat → Bool} {at_ : Nat → Int} {j c : Nat} (h : Best on at_ j (c : Int)) (hl : ¬ at_ j < at_ c) : Best on at_ (j + 1) (c : Int) := by
  rcases h with ⟨h, _⟩ | ⟨c', hc', hlt, hon, h⟩
  · omega
  · obtain rfl : c = c' := by omega
    refine .inr ⟨c, rfl, by omega, hon, fun i hi hoi hne => ?_⟩
    by_cases e : i = j
    · subst e; rcases Int.lt_or_eq_of_le (Int.not_lt.1 hl) with q | q
      · exact .inl q
      · exact .inr ⟨q, hlt⟩
    · exact h i (by omega) hoi hne

/-- By time, with one id: the sooner, of alike ones the lower slot. -/
theorem ahead_time {s s' : Nat} {d d' i : Int} (h : d < d' ∨ (d = d' ∧ s < s')) : ahead 2 ⟨s, d, 0, 0, i⟩ ⟨s', d', 0, 0, i⟩ = true := by
  rw [ahead_iff]
  simp only [lt_iff]
  simp only [if_true]
  omega

/-- The heap beside the two arrays of eight. -/
structure An (w0 w : World) (p : Nat) (F : Nat → Prop) (n : Nat) (M : Nat → Option Rk) (A O : Nat) (at_ : Nat → Int) (on : Nat → Bool) : Prop where
  hl : Hl w0 w p 2 F n M
  ra : w.rowIs A 44 8 (fun j => .int .i64 (at_ j))
  ro : w.rowIs O 45 8 (fun j => .bool (on j))
  nA : ¬ F A
  nO : ¬ F O
  ao : A ≠ O
  bA : w0.heap.size ≤ A
  bO : w0.heap.size ≤ O
  mm : ∀ s, M s = if s < 8 ∧ on s = true then some ⟨at_ s, 0, 0, 0⟩ else none
section
variable {w0 w w' : World} {p : Nat} {F F' : Nat → Prop} {n n' : Nat} {M M' : Nat → Option Rk} {A O : Nat} {at_ : Nat → Int} {on : Nat → Bool}
theorem An.gr (h : An w0 w p F n M A O at_ on) (g : Gr w w') : An w0 w' p F n M A O at_ on :=
  { h with hl := h.hl.gr g, ra := row_ke h.ra g (fun x => x), ro := row_ke h.ro g (fun x => x) }
theorem An.put (h : An w0 w p F n M A O at_ on) (k : Nat) (hk : k < 8) (d : Int) (a : Hl w0 w' p 2 F' n' (upd M k (some ⟨d, 0, 0, 0⟩))) (v : Sv F F' w w') :
    An w0 ((w'.setCell ⟨A, k, none⟩ (.int .i64 d)).setCell ⟨O, k, none⟩ (.bool true)) p F' n' (upd M k (some ⟨d, 0, 0, 0⟩)) A O (upd at_ k d) (upd on k true) := by
  have lA := h.ra.lt
  have lO := h.ro.lt
  have nA' : ¬ F' A := fun q => by rcases v.ft A q with e | e; exact h.nA e; omega
  have nO' : ¬ F' O := fun q => by rcases v.ft O q with e | e; exact h.nO e; omega
  have k1 : Ke (fun j => j = A ∨ j = O) w' ((w'.setCell ⟨A, k, none⟩ (.int .i64 d)).setCell ⟨O, k, none⟩ (.bool true)) := ((Ke.refl _ _).set (.inl (.inl rfl)) _).set (.inl (.inr rfl)) _
  refine { hl := ⟨a.st.ke k1 (fun j hj q => ?_), a.below.trans (k1.below a.below.size (fun j hj q => ?_))⟩, ra := ?_, ro := ?_, nA := nA', nO := nO', ao := h.ao, bA := h.bA, bO := h.bO, mm := fun s => ?_ }
  · rcases q with rfl | rfl
    · exact nA' hj
    · exact nO' hj
  · have := h.bA; have := h.bO
    rcases q with rfl | rfl <;> omega
  · have e := (row_set (row_ke h.ra v.ke h.nA) k (.int .i64 d)).setOther (a := ⟨O, k, none⟩) h.ao (.bool true)
    exact e.congr (fun i _ => by unfold upd; split <;> rfl)
  · have e := row_set ((row_ke h.ro v.ke h.nO).setOther (a := ⟨A, k, none⟩) (Ne.symm h.ao) (.int .i64 d)) k (.bool true)
    exact e.congr (fun i _ => by unfold upd; split <;> rfl)
  · by_cases e : s = k
    · subst e; rw [upd_same, upd_same, upd_same]; simp [hk]
    · rw [upd_other _ _ e, upd_other _ _ e, upd_other _ _ e]; exact h.mm s
theorem An.first (h : An w0 w p F n M A O at_ on) {c : Nat} (hc : c < 8) (hon : on c = true) (hb : ∀ i, i < 8 → on i = true → i ≠ c → at_ c < at_ i ∨ (at_ c = at_ i ∧ c < i)) : First 2 M c ⟨at_ c, 0, 0, 0⟩ := by
  refine ⟨by rw [h.mm c]; simp [hc, hon], fun s' r' h' hne => ?_⟩
  rw [h.mm s'] at h'
  split at h'
  · rename_i q
    cases h'
    exact ahead_time (hb s' q.1 q.2 hne)
  · cases h'
end
end Go.Proofs.Ytfbgjlfepnbcgaa
