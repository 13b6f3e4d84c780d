/- The table of slots: the contracts once more, as a law's walk uses them; the law's first sentence (awake). -/
import Derived.Test.YtlpjojegdnconaaDoorR6
namespace Go.Proofs.YtlpjojegdnconaaDoor
open Go.RowKit Go.Lib Go.Maps Go.Sort
set_option linter.unusedVariables false

/-- The table at p in a call that began in w0: its blocks are the call's own. -/
structure St (w0 w : World) (p g bm n : Nat) (A : Nat → Option Int) : Prop where
  below : Below w0.heap.size w0 w
  rep : ∃ D, Rep w p g bm n A D
  bp : w0.heap.size ≤ p
  bg : w0.heap.size ≤ g
  bb : w0.heap.size ≤ bm
  tab : Tab w0

theorem lt_of_cell {w : World} {a : Addr} {v : Value} (h : w.cell? a = some v) : a.block < w.heap.size := by
  unfold World.cell? at h
  rcases Nat.lt_or_ge a.block w.heap.size with e | e
  · exact e
  · rw [Array.getElem?_eq_none (by omega)] at h; simp at h

theorem Tab.pos {w : World} (h : Tab w) : 0 < w.heap.size := lt_of_cell (h 0 (by omega))
theorem St.tabw {w0 w : World} {p g bm n : Nat} {A : Nat → Option Int} (h : St w0 w p g bm n A) : Tab w := fun j hj => (h.below.cell (p := ⟨tabB, j, none⟩) h.tab.pos).trans (h.tab j hj)

theorem Below.of_kept3 {w0 w w' : World} {p g bm : Nat} (h : Below w0.heap.size w0 w) (k : Kept3 p g bm w w') (hp : w0.heap.size ≤ p) (hg : w0.heap.size ≤ g) (hb : w0.heap.size ≤ bm) : Below w0.heap.size w0 w' :=
  ⟨k.os.trans h.os, k.tape.trans h.tape, k.output.trans h.output, Nat.le_trans h.size k.size, fun j hj => (k.block j (Nat.lt_of_lt_of_le hj h.size) (by omega) (by omega) (by omega)).trans (h.block j hj)⟩

theorem St.turn {w0 w w' : World} {p g bm n : Nat} {A A' : Nat → Option Int} {D : DataW Unit} (h : St w0 w p g bm n A) (k : Kept3 p g bm w w') (r : Rep w' p g bm n A' D) : St w0 w' p g bm n A' :=
  ⟨Below.of_kept3 h.below k h.bp h.bg h.bb, ⟨D, r⟩, h.bp, h.bg, h.bb, h.tab⟩

theorem St.drew {w0 w : World} {p g bm n : Nat} {A : Nat → Option Int} (h : St w0 w p g bm n A) : St w0 w.drew p g bm n A := by
  obtain ⟨D, r⟩ := h.rep
  exact h.turn (Kept3.refl p g bm w).drew (r.keep (Nat.le_refl _) rfl rfl rfl)

section
variable {w0 w : World} {p g bm n : Nat} {A : Nat → Option Int}

theorem st_put_new (h : St w0 w p g bm n A) (x : Int) (hx : (Lit.int .i64 x).wf = true) (hn : ∀ s, A s ≠ some x) (m : Nat) (hm : m < n) (hA : A m = none) (hl : ∀ s, s < m → A s ≠ none) :
    Calls Tryd.prog 30 #[.pointer (some ⟨p, 0, none⟩), .int .i64 x] w fun e w' => e = .returned (.tuple #[.int .i64 m, .int .i64 0]) ∧ St w0 w' p g bm n (upd A m (some x)) ∧ Kept3 p g bm w w' := by
  obtain ⟨D, r⟩ := h.rep
  refine (put_new p g bm n A D w r h.tabw x hx hn m hm hA hl).mono ?_
  rintro e w' ⟨rfl, k, r'⟩
  exact ⟨rfl, h.turn k r', k⟩
theorem st_put_there (h : St w0 w p g bm n A) (x : Int) (hx : (Lit.int .i64 x).wf = true) (s : Nat) (hs : A s = some x) :
    Calls Tryd.prog 30 #[.pointer (some ⟨p, 0, none⟩), .int .i64 x] w fun e w' => e = .returned (.tuple #[.int .i64 0, .int .i64 4]) ∧ w' = w := by
  obtain ⟨D, r⟩ := h.rep
  exact put_there p g bm n A D w r x hx s hs
theorem st_put_full (h : St w0 w p g bm n A) (x : Int) (hx : (Lit.int .i64 x).wf = true) (hn : ∀ s, A s ≠ some x) (hf : ∀ s, s < n → A s ≠ none) :
    Calls Tryd.prog 30 #[.pointer (some ⟨p, 0, none⟩), .int .i64 x] w fun e w' => e = .returned (.tuple #[.int .i64 0, .int .i64 6]) ∧ w' = w := by
  obtain ⟨D, r⟩ := h.rep
  exact put_full p g bm n A D w r x hx hn hf
theorem st_drop_some (h : St w0 w p g bm n A) (x : Int) (hx : (Lit.int .i64 x).wf = true) (m : Nat) (hA : A m = some x) :
    Calls Tryd.prog 50 #[.pointer (some ⟨p, 0, none⟩), .int .i64 x] w fun e w' => e = .returned (.bool true) ∧ St w0 w' p g bm n (upd A m none) ∧ Kept3 p g bm w w' := by
  obtain ⟨D, r⟩ := h.rep
  refine (drop_some p g bm n A D w r x hx m hA).mono ?_
  rintro e w' ⟨rfl, k, r'⟩
  exact ⟨rfl, h.turn k r', k⟩
theorem st_drop_none (h : St w0 w p g bm n A) (x : Int) (hx : (Lit.int .i64 x).wf = true) (hn : ∀ s, A s ≠ some x) :
    Calls Tryd.prog 50 #[.pointer (some ⟨p, 0, none⟩), .int .i64 x] w fun e w' => e = .returned (.bool false) ∧ w' = w := by
  obtain ⟨D, r⟩ := h.rep
  exact drop_none p g bm n A D w r x hx hn
theorem st_get_some (h : St w0 w p g bm n A) (x : Int) (hx : (Lit.int .i64 x).wf = true) (s : Nat) (hs : A s = some x) :
    Calls Tryd.prog 49 #[.pointer (some ⟨p, 0, none⟩), .int .i64 x] w fun e w' => e = .returned (.tuple #[.int .i64 s, .bool true]) ∧ w' = w := by
  obtain ⟨D, r⟩ := h.rep
  exact get_some p g bm n A D w r x hx s hs
theorem st_get_none (h : St w0 w p g bm n A) (x : Int) (hx : (Lit.int .i64 x).wf = true) (hs : ∀ s, A s ≠ some x) :
    Calls Tryd.prog 49 #[.pointer (some ⟨p, 0, none⟩), .int .i64 x] w fun e w' => e = .returned (.tuple #[.int .i64 0, .bool false]) ∧ w' = w := by
  obtain ⟨D, r⟩ := h.rep
  exact get_none p g bm n A D w r x hx hs
theorem st_id_some (h : St w0 w p g bm n A) (s : Nat) (y : Int) (hs : A s = some y) :
    Calls Tryd.prog 36 #[.pointer (some ⟨p, 0, none⟩), .int .i64 s] w fun e w' => e = .returned (.tuple #[.int .i64 y, .bool true]) ∧ St w0 w' p g bm n A ∧ Kept3 p g bm w w' := by
  obtain ⟨D, r⟩ := h.rep
  refine (id_some p g bm n A D w r s y hs).mono ?_
  rintro e w' ⟨rfl, rfl⟩
  exact ⟨rfl, h.drew, (Kept3.refl p g bm w).drew⟩
theorem st_id_none (h : St w0 w p g bm n A) (x : Int) (hx : x < 0 ∨ (n : Int) ≤ x ∨ ∃ s : Nat, x = s ∧ A s = none) :
    Calls Tryd.prog 36 #[.pointer (some ⟨p, 0, none⟩), .int .i64 x] w fun e w' => e = .returned (.tuple #[.int .i64 0, .bool false]) ∧ St w0 w' p g bm n A ∧ Kept3 p g bm w w' := by
  obtain ⟨D, r⟩ := h.rep
  refine (id_none p g bm n A D w r x hx).mono ?_
  rintro e w' ⟨rfl, rfl | rfl⟩
  · exact ⟨rfl, h, Kept3.refl p g bm _⟩
  · exact ⟨rfl, h.drew, (Kept3.refl p g bm w).drew⟩
/-- The ids, handed out. -/
structure Ids (w0 w w' : World) (p g bm n : Nat) (A : Nat → Option Int) (gi cap : Nat) (l : List Int) : Prop where
  st : St w0 w' p g bm n A
  keep : Kept3 p g bm w w'
  new : w.heap.size ≤ gi
  lt : gi < w'.heap.size ∨ l.length = 0
  len : l.length = cnt A n
  capl : l.length ≤ cap
  mem : ∀ x, x ∈ l ↔ ∃ s, A s = some x
  rise : l.Pairwise (· < ·)
  cell : ∀ i (h : i < l.length), w'.cell? ⟨gi, i, none⟩ = some (.int .i64 l[i])
  row : w'.ownsRow w.heap.size 3 1 (.slice (some ⟨gi, 0, none⟩) l.length cap) l.length (l.map (Value.int .i64))
def IdsP (w0 w : World) (p g bm n : Nat) (A : Nat → Option Int) (e : Ending) (w' : World) : Prop := ∃ gi cap l, e = .returned (.slice (some ⟨gi, 0, none⟩) l.length cap) ∧ Ids w0 w w' p g bm n A gi cap l

theorem st_ids (h : St w0 w p g bm n A) : Calls Tryd.prog 45 #[.pointer (some ⟨p, 0, none⟩)] w fun e w' => IdsP w0 w p g bm n A e w' := by
  obtain ⟨D, r⟩ := h.rep
  refine (ids_any p g bm n A D w r).mono ?_
  rintro e w' ⟨gi, cap, l, rfl, h1, h2, h3, h4, h5, h6, h7, h8⟩
  have k : Kept3 p g bm w w' := ⟨h2.os, h2.tape, h2.output, h2.size, fun j hj _ _ _ => h2.block j hj, fun o _ => World.cell?_of_block (a := ⟨p, o, none⟩) (h2.block p r.pl)⟩
  refine ⟨gi, cap, l, rfl, ⟨h.turn k (r.keep h2.size (h2.block _ r.pl) (h2.block _ r.gl) (h2.block _ r.ml)), k, h1, ?_, h3, h4, h5, h6, h7, h8⟩⟩
  rcases Nat.eq_zero_or_pos l.length with e | e
  · exact .inr e
  · exact .inl (lt_of_cell (h7 0 e))

/-- A new table. -/
def NewP (w0 : World) (m : Nat) (e : Ending) (w' : World) : Prop := ∃ p g bm, e = .returned (.pointer (some ⟨p, 0, none⟩)) ∧ St w0 w' p g bm m (fun _ => none)
theorem st_new {w0 w : World} (hb : Below w0.heap.size w0 w) (hT : Tab w0) (x : Int) (m : Nat) (hm : m ≤ 4096) (hlo : (if x < 0 then 0 else x) = (m : Int)) : Calls Tryd.prog 28 #[.int .i64 x] w fun e w' => NewP w0 m e w' := by
  refine (new_any x m w hm hlo).mono ?_
  rintro e w' ⟨p, g, bm, rfl, h1, h2, h3, h4, h5⟩
  have hs := hb.size
  exact ⟨p, g, bm, rfl, hb.trans (h4.mono hs), ⟨_, h5⟩, by omega, by omega, by omega, hT⟩
end

theorem upd_ne {A : Nat → Option Int} {m : Nat} {x y : Int} (h : ∀ s, A s ≠ some y) (hxy : x ≠ y) : ∀ s, upd A m (some x) s ≠ some y := fun s => by
  by_cases e : s = m
  · subst e; rw [upd_same]; simpa using hxy
  · rw [upd_other _ _ e]; exact h s
theorem upd_none_ne {A : Nat → Option Int} {m : Nat} {y : Int} (h : ∀ s, s ≠ m → A s ≠ some y) : ∀ s, upd A m none s ≠ some y := fun s => by
  by_cases e : s = m
  · subst e; rw [upd_same]; simp
  · rw [upd_other _ _ e]; exact h s e

end Go.Proofs.YtlpjojegdnconaaDoor
