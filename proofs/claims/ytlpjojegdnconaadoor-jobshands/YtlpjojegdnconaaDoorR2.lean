/- The table of slots: what it holds, in memory and plain. -/
import Derived.Test.YtlpjojegdnconaaDoorR1
import Derived.Maps.OwnSet
import Derived.Maps.RangeWalk
namespace Go.Proofs.YtlpjojegdnconaaDoor
open Go.RowKit Go.Lib Go.Maps
set_option linter.unusedVariables false

/-! ### plain -/
/-- How many of the first n slots are taken. -/
def cnt (A : Nat → Option Int) : Nat → Nat
  | 0 => 0
  | n + 1 => cnt A n + (if (A n).isSome then 1 else 0)
theorem cnt_le (A : Nat → Option Int) : ∀ n, cnt A n ≤ n
  | 0 => Nat.le_refl _
  | n + 1 => by have := cnt_le A n; unfold cnt; split <;> omega
theorem cnt_congr {A B : Nat → Option Int} : ∀ n, (∀ s, s < n → A s = B s) → cnt A n = cnt B n
  | 0, _ => rfl
  | n + 1, h => by unfold cnt; rw [cnt_congr n (fun s hs => h s (by omega)), h n (by omega)]
theorem cnt_put {A : Nat → Option Int} {m : Nat} {x : Int} (h0 : A m = none) : ∀ n, m < n → cnt (upd A m (some x)) n = cnt A n + 1
  | 0, h => by omega
  | n + 1, h => by
    unfold cnt
    by_cases e : m = n
    · subst e
      rw [upd_same, h0, cnt_congr m (B := A) (fun s hs => upd_other _ _ (by omega))]; simp
    · rw [upd_other _ _ (Ne.symm e), cnt_put h0 n (by omega)]; omega
theorem cnt_drop {A : Nat → Option Int} {m : Nat} {x : Int} (h0 : A m = some x) : ∀ n, m < n → cnt (upd A m none) n + 1 = cnt A n
  | 0, h => by omega
  | n + 1, h => by
    unfold cnt
    by_cases e : m = n
    · subst e
      rw [upd_same, h0, cnt_congr m (B := A) (fun s hs => upd_other _ _ (by omega))]; simp
    · rw [upd_other _ _ (Ne.symm e)]; have := cnt_drop h0 n (by omega); omega
theorem cnt_full {A : Nat → Option Int} : ∀ n, (∀ s, s < n → A s ≠ none) → cnt A n = n
  | 0, _ => rfl
  | n + 1, h => by
    unfold cnt
    rw [cnt_full n (fun s hs => h s (by omega))]
    cases e : A n
    · exact absurd e (h n (by omega))
    · simp
theorem cnt_empty : ∀ n, cnt (fun _ => none) n = 0
  | 0 => rfl
  | n + 1 => by unfold cnt; rw [cnt_empty n]; simp

/-- The map from ids to slots. -/
structure MapIs (D : DataW Unit) (A : Nat → Option Int) : Prop where
  has : ∀ x : Int, Maps.has D (.int .i64 x) = true ↔ ∃ s, A s = some x
  at_ : ∀ (s : Nat) (x : Int), A s = some x → ∀ z, D.atKey (.int .i64 x) z = .lit (.int .i64 s)
  inj : ∀ (s t : Nat) (x : Int), A s = some x → A t = some x → s = t

theorem lit_ne {x y : Int} (h : x ≠ y) : (Lit.int .i64 x) ≠ (Lit.int .i64 y) := fun e => h (by cases e; rfl)
theorem keyLit (x : Int) : WideAt.IsKeyLit (Lit.int .i64 x) := by trivial

theorem MapIs.not_has {D : DataW Unit} {A : Nat → Option Int} (h : MapIs D A) {x : Int} (hn : ∀ s, A s ≠ some x) : Maps.has D (.int .i64 x) = false := by
  cases e : Maps.has D (.int .i64 x)
  · rfl
  · obtain ⟨s, hs⟩ := (h.has x).1 e; exact absurd hs (hn s)

theorem MapIs.put {D : DataW Unit} {A : Nat → Option Int} (h : MapIs D A) (hD : IsMap D) {m : Nat} {x : Int} (h0 : A m = none) (hn : ∀ s, A s ≠ some x) : MapIs (D.put (.int .i64 x) (.lit (.int .i64 m))) (upd A m (some x)) := by
  refine ⟨fun y => ?_, fun s y hs z => ?_, fun s t y hs ht => ?_⟩
  · by_cases e : y = x
    · subst e
      refine ⟨fun _ => ⟨m, upd_same _ _ _⟩, fun _ => has_put_same hD (keyLit y) _⟩
    · rw [has_put_other (lit_ne e), h.has y]
      constructor
      · rintro ⟨s, hs⟩
        exact ⟨s, by rw [upd_other _ _ (fun q => by subst q; rw [h0] at hs; cases hs)]; exact hs⟩
      · rintro ⟨s, hs⟩
        by_cases q : s = m
        · subst q; rw [upd_same] at hs; exact absurd (Option.some.inj hs).symm e
        · exact ⟨s, by rwa [upd_other _ _ q] at hs⟩
  · by_cases q : s = m
    · subst q; rw [upd_same] at hs
      obtain rfl := Option.some.inj hs
      exact atKey_put_same hD (keyLit _) _ _
    · rw [upd_other _ _ q] at hs
      rw [atKey_put_other (lit_ne (fun e => by subst e; exact hn s hs))]
      exact h.at_ s y hs z
  · by_cases q : s = m
    · by_cases q2 : t = m
      · omega
      · subst q; rw [upd_same] at hs; rw [upd_other _ _ q2] at ht
        obtain rfl := Option.some.inj hs
        exact absurd ht (hn t)
    · rw [upd_other _ _ q] at hs
      by_cases q2 : t = m
      · subst q2; rw [upd_same] at ht
        obtain rfl := Option.some.inj ht
        exact absurd hs (hn s)
      · rw [upd_other _ _ q2] at ht; exact h.inj s t y hs ht

theorem MapIs.del {D : DataW Unit} {A : Nat → Option Int} (h : MapIs D A) {m : Nat} {x : Int} (h0 : A m = some x) : MapIs (D.del (.int .i64 x)) (upd A m none) := by
  refine ⟨fun y => ?_, fun s y hs z => ?_, fun s t y hs ht => ?_⟩
  · by_cases e : y = x
    · subst e
      rw [has_del_same]
      refine ⟨fun h => (by cases h), fun ⟨s, hs⟩ => ?_⟩
      by_cases q : s = m
      · subst q; rw [upd_same] at hs; cases hs
      · rw [upd_other _ _ q] at hs; exact absurd (h.inj s m y hs h0) q
    · rw [has_del_other (lit_ne e), h.has y]
      constructor
      · rintro ⟨s, hs⟩
        exact ⟨s, by rw [upd_other _ _ (fun q => by subst q; rw [h0] at hs; exact e (Option.some.inj hs).symm)]; exact hs⟩
      · rintro ⟨s, hs⟩
        by_cases q : s = m
        · subst q; rw [upd_same] at hs; cases hs
        · exact ⟨s, by rwa [upd_other _ _ q] at hs⟩
  · by_cases q : s = m
    · subst q; rw [upd_same] at hs; cases hs
    · rw [upd_other _ _ q] at hs
      rw [atKey_del_other (lit_ne (fun e => by subst e; exact q (h.inj s m _ hs h0)))]
      exact h.at_ s y hs z
  · by_cases q : s = m
    · subst q; rw [upd_same] at hs; cases hs
    · by_cases q2 : t = m
      · subst q2; rw [upd_same] at ht; cases ht
      · rw [upd_other _ _ q] at hs; rw [upd_other _ _ q2] at ht; exact h.inj s t y hs ht
theorem MapIs.start : MapIs (.map []) (fun _ => none) := ⟨fun x => by simp [Maps.has], fun s x h => (by cases h), fun s t x h => (by cases h)⟩

/-! ### in memory -/
theorem law3 : Keyed Tryd.prog 3 := int_keyed Tryd.underlying3

theorem ownsMap_tight {w : World} {b n : Nat} {D : DataW Unit} (h : w.ownsMap Tryd.prog 3 (plainElem Tryd.prog 3) b n D) : w.ownsMap Tryd.prog 3 (plainElem Tryd.prog 3) b (Maps.size D) D := by
  obtain ⟨es, cl, h1, h2, h3, h4⟩ := h
  refine ⟨es, cl, h1, h2, ?_, h4⟩
  rw [h4, size_eq, length_read]
  exact Nat.le_refl _

/-- The table at block p: its ids lie in block g, its map is block bm. -/
structure Rep (w : World) (p g bm n : Nat) (A : Nat → Option Int) (D : DataW Unit) : Prop where
  n4 : n ≤ 4096
  pg : p ≠ g
  pm : p ≠ bm
  gm : g ≠ bm
  pl : p < w.heap.size
  gl : g < w.heap.size
  ml : bm < w.heap.size
  ids : w.cell? ⟨p, 0, none⟩ = some (.slice (some ⟨g, 0, none⟩) n n)
  mp : w.cell? ⟨p, 1, none⟩ = some (.map (some bm))
  room : Room w p (fun s => decide (s < n) && (A s).isNone)
  out : ∀ s, n ≤ s → A s = none
  wf : ∀ s x, A s = some x → (Lit.int .i64 x).wf = true
  cell : ∀ s, s < n → ∃ v, w.cell? ⟨g, s, none⟩ = some (.int .i64 v) ∧ ∀ x, A s = some x → v = x
  gz : ∀ o, w.frozen? ⟨g, o, none⟩ = false
  own : w.ownsMap Tryd.prog 3 (plainElem Tryd.prog 3) bm (Maps.size D) D
  map : MapIs D A
  size : Maps.size D = cnt A n

theorem Room.congr {w : World} {p : Nat} {f g : Nat → Bool} (h : Room w p f) (e : ∀ s, f s = g s) : Room w p g := by
  obtain rfl : f = g := funext e
  exact h
theorem Room.keep {w w' : World} {p : Nat} {f : Nat → Bool} (h : Room w p f) (e : w'.heap[p]? = w.heap[p]?) : Room w' p f := by
  obtain ⟨F, S, hb, r⟩ := h
  exact ⟨F, S, hb, ⟨fun k hk => (World.cell?_of_block e).trans (r.c k hk), (World.cell?_of_block e).trans r.s, fun o => (World.frozen?_of_block e).trans (r.z o)⟩⟩

/-- Nothing of the table was turned. -/
theorem Rep.keep {w w' : World} {p g bm n : Nat} {A : Nat → Option Int} {D : DataW Unit} (h : Rep w p g bm n A D) (hs : w.heap.size ≤ w'.heap.size) (ep : w'.heap[p]? = w.heap[p]?) (eg : w'.heap[g]? = w.heap[g]?) (em : w'.heap[bm]? = w.heap[bm]?) : Rep w' p g bm n A D :=
  { h with
    pl := Nat.lt_of_lt_of_le h.pl hs, gl := Nat.lt_of_lt_of_le h.gl hs, ml := Nat.lt_of_lt_of_le h.ml hs
    ids := (World.cell?_of_block ep).trans h.ids, mp := (World.cell?_of_block ep).trans h.mp, room := h.room.keep ep
    cell := fun s hs => by obtain ⟨v, h1, h2⟩ := h.cell s hs; exact ⟨v, (World.cell?_of_block eg).trans h1, h2⟩
    gz := fun o => (World.frozen?_of_block eg).trans (h.gz o)
    own := by obtain ⟨es, cl, h1, h2⟩ := h.own; exact ⟨es, cl, em.trans h1, h2⟩ }
end Go.Proofs.YtlpjojegdnconaaDoor
