/- LedgerPlays: a round's state: the ledger, the law's own row, the deed's box. -/
import Derived.Test.YtbimaaknjedonaaD3
namespace Go.Proofs.Ytbimaaknjedonaa
open Go.RowKit Go.Lib Go.Maps
set_option linter.unusedVariables false

theorem Row.mono {w : World} {base base' : Nat} {e : TypeId} {size : Nat} {v : Value} {n : Nat} {f : Nat → Value} (h : Row w base e size v n f) (hb : base' ≤ base) : Row w base' e size v n f := by
  obtain ⟨h1, h2⟩ := h
  refine ⟨h1, ?_⟩
  rcases h2 with q | ⟨g, cap, cur, a, b, c⟩
  · exact .inl q
  · exact .inr ⟨g, cap, cur, a, Nat.le_trans hb b, c⟩
/-- The ledger holds L, the law's own row A. -/
structure PH (w0 w : World) (S : Nat → Prop) (l : Nat) (k : Int) (L A : List Wt) (v : Value) : Prop where
  led : Led w S l k L
  row : Row w w0.heap.size 30 3 v A.length (dc A)
  ap : ∀ g, v.ownBlock = some g → ¬ S g
  base : ∀ g, S g → w0.heap.size ≤ g
  gr : Gr w0 w
/-- The deed's box. -/
structure Bx (w : World) (B : Nat) (o i e p : Int) : Prop where
  b0 : w.cell? ⟨B, 0, none⟩ = some (.int .i64 o)
  b1 : w.cell? ⟨B, 1, none⟩ = some (.int .i64 i)
  b2 : w.cell? ⟨B, 2, none⟩ = some (.int .i64 e)
  b3 : w.cell? ⟨B, 3, none⟩ = some (.int .i64 p)
theorem Bx.ke {F : Nat → Prop} {w w' : World} {B : Nat} {o i e p : Int} (h : Bx w B o i e p) (k : Ke F w w') (hB : ¬ F B) : Bx w' B o i e p := by
  have q := k.block B (cell_lt h.b0) hB
  exact ⟨(World.cell?_of_block (a := ⟨B, 0, none⟩) q).trans h.b0, (World.cell?_of_block (a := ⟨B, 1, none⟩) q).trans h.b1, (World.cell?_of_block (a := ⟨B, 2, none⟩) q).trans h.b2, (World.cell?_of_block (a := ⟨B, 3, none⟩) q).trans h.b3⟩
theorem Bx.gr {w w' : World} {B : Nat} {o i e p : Int} (h : Bx w B o i e p) (k : Gr w w') : Bx w' B o i e p := h.ke k (fun f => f)
section
variable {w0 w w' : World} {S S' : Nat → Prop} {l : Nat} {k : Int} {L L' A : List Wt} {v : Value}
theorem PH.grow (h : PH w0 w S l k L A v) (g : Gr w w') : PH w0 w' S l k L A v :=
  ⟨h.led.gr g, h.row.keep (fun b hb => g.block b (h.row.lt hb).2 (fun f => f)), h.ap, h.base, h.gr.gr g⟩
/-- Something done to the ledger. -/
theorem PH.op (h : PH w0 w S l k L A v) (a : Led w' S' l k L') (q : Ke S w w') (s : Sv S S' w) : PH w0 w' S' l k L' A v := by
  refine ⟨a, h.row.keep (fun b hb => q.block b (h.row.lt hb).2 (h.ap b hb)), fun g hg z => ?_, fun g hg => ?_, Ke.over h.gr q h.base⟩
  · rcases s g z with y | y
    · exact h.ap g hg y
    · have := (h.row.lt hg).2; omega
  · rcases s g hg with y | y
    · exact h.base g y
    · exact Nat.le_trans h.gr.size y
/-- A row built anew. -/
theorem PH.anew {X : World} {C : List Wt} {v' : Value} (h : PH w0 w S l k L A v) (b : Bd w C v' X) : PH w0 X S l k L C v' :=
  ⟨h.led.gr b.gr, b.row.mono h.gr.size, fun g hg z => by have := (b.row.lt hg).1; have := h.led.lt z; omega, h.base, h.gr.gr b.gr⟩
/-- One more in the row. -/
theorem PH.push {X : World} {C : List Wt} {v' : Value} (h : PH w0 w S l k L A v) (b : ApP w w0.heap.size v C v' X) : PH w0 X S l k L C v' := by
  have q : Ke (fun g => v.ownBlock = some g) w X := (Ke.refl _ w).grown b.gr (fun g e => .inl e)
  refine ⟨h.led.ke q (fun g hg e => h.ap g e hg), b.row, fun g hg z => ?_, h.base, Ke.over h.gr q (fun g e => (h.row.lt e).1)⟩
  rcases b.at_ with e | e
  · exact h.ap g (e ▸ hg) z
  · rw [e] at hg
    cases hg
    have := h.led.lt z
    omega
end
theorem ph_new {w0 w : World} (g : Gr w0 w) (c : Int) : PH w0 (w.alloc (LO c)) (fun x => x = w.heap.size) w.heap.size (cut c) [] [] (.slice none 0 0) :=
  ⟨led_new c w, World.ownsRow_nil _ _ _ _, fun g hg => by simp [Value.ownBlock] at hg, fun x hx => by cases hx; exact g.size, g.alloc _⟩

/-! ### where an id stands -/
/-- Found among the first j. -/
def AtP (L : List Wt) (i : Int) (j : Nat) (at_ : Int) : Prop := (at_ = -1 ∧ ∀ t, t < j → (L.getD t default).id ≠ i) ∨ ∃ a : Nat, at_ = (a : Int) ∧ a < j ∧ (L.getD a default).id = i
theorem AtP.start (L : List Wt) (i : Int) : AtP L i 0 (-1) := .inl ⟨rfl, fun t ht => by omega⟩
theorem AtP.hit {L : List Wt} {i : Int} {j : Nat} (h : (L.getD j default).id = i) : AtP L i (j + 1) (j : Int) := .inr ⟨j, rfl, by omega, h⟩
theorem AtP.miss {L : List Wt} {i : Int} {j : Nat} {x : Int} (h : AtP L i j x) (hj : (L.getD j default).id ≠ i) : AtP L i (j + 1) x := by
  rcases h with ⟨e, h⟩ | ⟨a, e, h, q⟩
  · refine .inl ⟨e, fun t ht => ?_⟩
    by_cases c : t = j
    · subst c; exact hj
    · exact h t (by omega)
  · exact .inr ⟨a, e, by omega, q⟩
theorem AtP.bd {L : List Wt} {i : Int} {j : Nat} {x : Int} (h : AtP L i j x) : -1 ≤ x ∧ x < j := by
  rcases h with ⟨e, h⟩ | ⟨a, e, h, q⟩ <;> omega
theorem AtP.any {L : List Wt} {i x : Int} (h : AtP L i L.length x) : L.any (fun y => decide (y.id = i)) = decide (0 ≤ x) := by
  rcases h with ⟨e, h⟩ | ⟨a, e, h, q⟩
  · have d : decide (0 ≤ x) = false := by simp; omega
    rw [d]
    cases c : L.any (fun y => decide (y.id = i)) with
    | false => rfl
    | true =>
      obtain ⟨y, hy, z⟩ := any_id.1 c
      obtain ⟨t, ht, rfl⟩ := List.getElem_of_mem hy
      have := h t ht
      rw [List.getD_eq_getElem?_getD, List.getElem?_eq_getElem ht] at this
      exact absurd z this
  · have d : decide (0 ≤ x) = true := by simp; omega
    rw [d]
    exact any_id.2 ⟨_, getD_mem h, q⟩
theorem remL_at : ∀ {L : List Wt} {a : Nat} {i : Int}, Ids L → a < L.length → (L.getD a default).id = i → remL i L = L.take a ++ L.drop (a + 1)
  | y :: l, 0, i, h, ha, hi => by
    have h' := List.pairwise_cons.1 h
    have e : y.id = i := hi
    show (if y.id = i then remL i l else y :: remL i l) = l
    rw [if_pos e]
    exact remL_out (fun z hz => by rw [← e]; exact (h'.1 z hz).symm)
  | y :: l, a + 1, i, h, ha, hi => by
    have h' := List.pairwise_cons.1 h
    have hl : a < l.length := by simpa using ha
    have hi' : (l.getD a default).id = i := by simpa using hi
    have e : y.id ≠ i := by rw [← hi']; exact h'.1 _ (getD_mem hl)
    show (if y.id = i then remL i l else y :: remL i l) = y :: (l.take a ++ l.drop (a + 1))
    rw [if_neg e, remL_at h'.2 hl hi']
/-- What the law asks of Add. -/
theorem addV_at {k : Int} {L : List Wt} {i e p x : Int} (h : AtP L i L.length x) : addV k L i e p = if 0 ≤ x ∧ canV k L e p ≠ 2 then 4 else canV k L e p := by
  unfold addV
  rw [h.any]
  by_cases c : canV k L e p = 2
  · rw [if_pos c, if_neg (fun q => q.2 c), c]
  · rw [if_neg c]
    by_cases d : 0 ≤ x
    · rw [if_pos (by simpa using d), if_pos ⟨d, c⟩]
    · rw [if_neg (by simpa using d), if_neg (fun q => d q.1)]

/-- All deeds that came in. -/
def DdsIn (w : World) (b off N : Nat) (q : Nat → Deed) : Prop := ∀ i, i < N → w.cell? ⟨b, off + i * 4, none⟩ = some (.int .i64 (q i).o) ∧ w.cell? ⟨b, off + i * 4 + 1, none⟩ = some (.int .i64 (q i).i) ∧ w.cell? ⟨b, off + i * 4 + 2, none⟩ = some (.int .i64 (q i).e) ∧ w.cell? ⟨b, off + i * 4 + 3, none⟩ = some (.int .i64 (q i).p)
theorem DdsIn.gr {w w' : World} {b off N : Nat} {q : Nat → Deed} (h : DdsIn w b off N q) (g : Gr w w') : DdsIn w' b off N q := fun i hi => ⟨kcell g (h i hi).1, kcell g (h i hi).2.1, kcell g (h i hi).2.2.1, kcell g (h i hi).2.2.2⟩
/-- A round's beginning. -/
def PlRel (w0 : World) (l : Nat) (k : Int) (N : Nat) (s7 s8 : Value) (wr : World) : Prop :=
  ∃ (i : Nat) (S : Nat → Prop) (L : List Wt) (a : Option Addr) (cap : Nat), s7 = .slice a L.length cap ∧ s8 = .int .i64 (i : Nat) ∧ i ≤ N ∧ L.length ≤ i ∧ PH w0 wr S l k L L (.slice a L.length cap)
/-- Behind the inner loop. -/
def FndW (W : World) (L : List Wt) (id : Int) (s10 : Value) (wx : World) : Prop := ∃ x : Int, s10 = .int .i64 x ∧ AtP L id L.length x ∧ Gr W wx
/-- Behind the switch. -/
def DidW (w0 : World) (l : Nat) (k : Int) (i : Nat) (s7 : Value) (wx : World) : Prop :=
  ∃ (S : Nat → Prop) (L : List Wt) (a : Option Addr) (cap : Nat), s7 = .slice a L.length cap ∧ L.length ≤ i + 1 ∧ PH w0 wx S l k L L (.slice a L.length cap)
theorem did_of {w0 wx : World} {l : Nat} {k : Int} {i : Nat} {S : Nat → Prop} {L : List Wt} {v : Value} (h : PH w0 wx S l k L L v) (hl : L.length ≤ i + 1) : DidW w0 l k i v wx := by
  obtain ⟨a, cap, rfl, _⟩ := mr_of_row h.row
  exact ⟨S, L, a, cap, rfl, hl, h⟩
end Go.Proofs.Ytbimaaknjedonaa
