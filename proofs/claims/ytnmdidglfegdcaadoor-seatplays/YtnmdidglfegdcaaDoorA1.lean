/- Worlds that keep all but some blocks; rows of the call's own; rows of numbers; appends; single bits and the library's table for the lowest one. -/
import Derived.Lib.Hide
import Derived.Test.YtnmdidglfegdcaaDoorChecked
import Derived.WalkKit
import Derived.StillTailTactics
import Derived.IntWalk
import Derived.BigQuiet
import Derived.Deep.LoopGhost
import Derived.Deep.DeepCutAuto
import Derived.Laws.OwnMore
import Derived.Laws.Bits64b
import Derived.Lib.TrailingZeros
import Derived.Shelf.Spec.TrailingZeros
import Derived.Maps.OwnSet
import Derived.Maps.OwnOps
namespace Go.Proofs.YtnmdidglfegdcaaDoor
open Go.RowKit Go.Lib Go.Maps
set_option linter.unusedVariables false
set_option maxRecDepth 100000
set_option maxHeartbeats 2000000

theorem bits_andNot_u64_nat (a b : Nat) (ha : a < 18446744073709551616) (hb : b < 18446744073709551616) :
    bits .andNot .u64 (a : Int) (b : Int) = ((a &&& (18446744073709551615 ^^^ b) : Nat) : Int) := by
  have h1 : (BitVec.ofInt 64 (a : Int)).toNat = a := by
    rw [BitVec.ofInt_natCast, BitVec.toNat_ofNat]; exact Nat.mod_eq_of_lt (by omega)
  have h2 : (BitVec.ofInt 64 (b : Int)).toNat = b := by
    rw [BitVec.ofInt_natCast, BitVec.toNat_ofNat]; exact Nat.mod_eq_of_lt (by omega)
  have hx : a &&& (18446744073709551615 ^^^ b) < 2 ^ 64 := Nat.and_lt_two_pow _ (Nat.xor_lt_two_pow (by omega) (by omega))
  have e : (~~~(BitVec.ofInt 64 (b : Int))).toNat = 18446744073709551615 ^^^ b := by
    rw [← BitVec.allOnes_xor, BitVec.toNat_xor, h2]; rfl
  show IntKind.u64.wrap ((BitVec.ofInt 64 (a : Int) &&& ~~~(BitVec.ofInt 64 (b : Int))).toNat : Int) = _
  rw [BitVec.toNat_and, h1, e, IntKind.wrap_u64]
  omega
def upd {α : Type} (f : Nat → α) (k : Nat) (v : α) : Nat → α := fun i => if i = k then v else f i
theorem upd_same {α : Type} (f : Nat → α) (k : Nat) (v : α) : upd f k v k = v := by simp [upd]
theorem upd_other {α : Type} (f : Nat → α) {k i : Nat} (v : α) (h : i ≠ k) : upd f k v i = f i := by simp [upd, h]
theorem two_pow_lt {j : Nat} (h : j < 64) : 2 ^ j < 18446744073709551616 := by
  have := Nat.pow_lt_pow_right (a := 2) (by omega) h
  exact this
theorem or_lt {a b : Nat} (ha : a < 18446744073709551616) (hb : b < 18446744073709551616) : a ||| b < 18446744073709551616 := Nat.or_lt_two_pow (n := 64) ha hb
theorem and_lt {a b : Nat} (ha : a < 18446744073709551616) : a &&& b < 18446744073709551616 := Nat.lt_of_le_of_lt Nat.and_le_left ha
theorem testBit_one_shift (j i : Nat) : (2 ^ j).testBit i = decide (j = i) := Nat.testBit_two_pow
theorem testBit_not {b i : Nat} (hi : i < 64) : (18446744073709551615 ^^^ b).testBit i = !b.testBit i := by
  rw [Nat.testBit_xor]
  have : (18446744073709551615 : Nat).testBit i = true := by
    rw [show (18446744073709551615 : Nat) = 2 ^ 64 - 1 by decide, Nat.testBit_two_pow_sub_one]; simpa using hi
  rw [this]; simp
theorem ne_zero_of_testBit {x j : Nat} (h : x.testBit j = true) : x ≠ 0 := by
  intro e; rw [e] at h; simp at h
theorem zero_of_no_bit {x : Nat} (hx : x < 18446744073709551616) (h : ∀ j, j < 64 → x.testBit j = false) : x = 0 := by
  refine Nat.eq_of_testBit_eq fun j => ?_
  by_cases hj : j < 64
  · rw [h j hj]; simp
  · rw [Nat.testBit_lt_two_pow (Nat.lt_of_lt_of_le hx (Nat.pow_le_pow_right (n := 2) (by omega) (show 64 ≤ j by omega)))]; simp
theorem testBit_mul_pow (k m j : Nat) : (2 ^ k * (2 * m + 1)).testBit j = (decide (k ≤ j) && (2 * m + 1).testBit (j - k)) := by
  rw [Nat.testBit_two_pow_mul]
/-- The lowest bit. -/
theorem ctz_spec {x : Nat} (h0 : x ≠ 0) (hx : x < 18446744073709551616) : Lib.ctz 64 x < 64 ∧ x.testBit (Lib.ctz 64 x) = true ∧ ∀ j, j < Lib.ctz 64 x → x.testBit j = false := by
  unfold Lib.ctz
  rw [if_neg h0]
  obtain ⟨m, e, hk⟩ := Lib.ctzFrom_spec 64 x (Nat.pos_of_ne_zero h0) hx
  refine ⟨hk, ?_, fun j hj => ?_⟩
  · generalize Lib.ctzFrom 64 x = k at e hk
    rw [e, testBit_mul_pow]; simp [Nat.testBit_zero]
  · generalize Lib.ctzFrom 64 x = k at e hk hj
    rw [e, testBit_mul_pow]; simp; omega
/-- All that was there is as it was, but the blocks of F. -/
structure Ke (F : Nat → Prop) (w w' : World) : Prop where
  os : w'.os = w.os
  tape : w'.tape = w.tape
  output : w'.output = w.output
  size : w.heap.size ≤ w'.heap.size
  block : ∀ k, k < w.heap.size → ¬ F k → w'.heap[k]? = w.heap[k]?
/-- Nothing but new blocks. -/
abbrev Gr (w w' : World) : Prop := Ke (fun _ => False) w w'
theorem Ke.refl (F : Nat → Prop) (w : World) : Ke F w w := ⟨rfl, rfl, rfl, Nat.le_refl _, fun _ _ _ => rfl⟩
theorem Ke.trans {F : Nat → Prop} {a b c : World} (h : Ke F a b) (k : Ke F b c) : Ke F a c :=
  ⟨k.os.trans h.os, k.tape.trans h.tape, k.output.trans h.output, Nat.le_trans h.size k.size, fun j hj hn => (k.block j (Nat.lt_of_lt_of_le hj h.size) hn).trans (h.block j hj hn)⟩
theorem Ke.mono {F G : Nat → Prop} {a b : World} (h : Ke F a b) (i : ∀ k, k < a.heap.size → F k → G k) : Ke G a b := ⟨h.os, h.tape, h.output, h.size, fun j hj hn => h.block j hj (fun q => hn (i j hj q))⟩
theorem Ke.of_gr {F : Nat → Prop} {a b : World} (h : Gr a b) : Ke F a b := h.mono (fun _ _ q => q.elim)
theorem Ke.drew {F : Nat → Prop} {a b : World} (h : Ke F a b) : Ke F a b.drew := ⟨h.os, h.tape, h.output, h.size, h.block⟩
theorem Ke.alloc {F : Nat → Prop} {a b : World} (h : Ke F a b) (o : Obj) : Ke F a (b.alloc o) := h.trans ⟨rfl, rfl, rfl, by simp, fun k hk _ => Below.heap_alloc _ _ _ hk⟩
theorem Ke.set {F : Nat → Prop} {a b : World} (h : Ke F a b) {p : Addr} (hp : F p.block ∨ a.heap.size ≤ p.block) (u : Value) : Ke F a (b.setCell p u) :=
  ⟨h.os, h.tape, h.output, by simpa [World.setCell] using h.size, fun k hk hn => (Below.heap_setCell _ _ _ _ (fun e => by
    rcases hp with q | q
    · rw [← e] at q; exact hn q
    · omega)).trans (h.block k hk hn)⟩
theorem Ke.grown {F : Nat → Prop} {a w w' : World} {row : Option Nat} (h : Ke F a w) (hg : w.grownBy w' row) (hr : ∀ k, row = some k → F k ∨ a.heap.size ≤ k) : Ke F a w' :=
  ⟨hg.os.trans h.os, hg.tape.trans h.tape, hg.output.trans h.output, Nat.le_trans h.size hg.size, fun k hk hn => (hg.block k (Nat.lt_of_lt_of_le hk h.size) (fun e => by
    rcases hr k e.symm with q | q
    · exact hn q
    · omega)).trans (h.block k hk hn)⟩
theorem Ke.cell {F : Nat → Prop} {w w' : World} (h : Ke F w w') {p : Addr} (hp : p.block < w.heap.size) (hn : ¬ F p.block) : w'.cell? p = w.cell? p := World.cell?_of_block (h.block p.block hp hn)
theorem Ke.frozen {F : Nat → Prop} {w w' : World} (h : Ke F w w') {p : Addr} (hp : p.block < w.heap.size) (hn : ¬ F p.block) : w'.frozen? p = w.frozen? p := World.frozen?_of_block (h.block p.block hp hn)
theorem Ke.below {F : Nat → Prop} {w w' : World} (h : Ke F w w') {B : Nat} (hB : B ≤ w.heap.size) (hn : ∀ k, k < B → ¬ F k) : Below B w w' := ⟨h.os, h.tape, h.output, h.size, fun k hk => h.block k (by omega) (hn k hk)⟩
theorem lt_of_cell {w : World} {a : Addr} {v : Value} (h : w.cell? a = some v) : a.block < w.heap.size := World.block_lt_of_cell? w a h
/-- A cell behind a call that only lays new blocks. -/
theorem gcell {w w' : World} (h : Gr w w') {a : Addr} {v : Value} (c : w.cell? a = some v) : w'.cell? a = some v := (h.cell (lt_of_cell c) (fun q => q)).trans c
theorem gcell' {w w' : World} (h : Gr w w') {a : Addr} {v : Value} (c : w.cell? a = some v) : w'.drew.cell? a = some v := gcell h.drew c
theorem ret_bool' {a b : Bool} (h : a = b) : Ending.returned (.bool a) = Ending.returned (.bool b) := by rw [h]
theorem blk_other (w : World) (g o : Nat) (x : Value) (j : Nat) (h : j ≠ g) : (w.setCell ⟨g, o, none⟩ x).heap[j]? = w.heap[j]? := Below.heap_setCell _ _ _ _ h
/-- A row of the call's own, its cells by their number. -/
def Row (w : World) (base : Nat) (e : TypeId) (size : Nat) (v : Value) (n : Nat) (f : Nat → Value) : Prop := w.ownsRow base e size v n ((List.range (n * size)).map f)
section
variable {w w' : World} {base : Nat} {e : TypeId} {size : Nat} {v : Value} {n : Nat} {f f' : Nat → Value}
theorem Row.congr (h : Row w base e size v n f) (q : ∀ j, j < n * size → f' j = f j) : Row w base e size v n f' := by
  unfold Row
  rw [show (List.range (n * size)).map f' = (List.range (n * size)).map f from List.map_congr_left (fun j hj => q j (List.mem_range.1 hj))]
  exact h
theorem Row.keep (h : Row w base e size v n f) (q : ∀ g, v.ownBlock = some g → w'.heap[g]? = w.heap[g]?) : Row w' base e size v n f := by
  refine ⟨h.1, ?_⟩
  rcases h.2 with hn | ⟨g, cap, cur, rfl, hb, hgg, rest⟩
  · exact .inl hn
  · exact .inr ⟨g, cap, cur, rfl, hb, (q g rfl).trans hgg, rest⟩
theorem Row.form (h : Row w base e size v n f) (hn : 0 < n) : ∃ g cap, v = .slice (some ⟨g, 0, none⟩) n cap ∧ base ≤ g ∧ g < w.heap.size ∧ n ≤ cap ∧ cap ≤ maxLen := by
  rcases h.2 with ⟨_, q⟩ | ⟨g, cap, cur, rfl, hb, hgg, h1, h2, _⟩
  · omega
  · exact ⟨g, cap, rfl, hb, (Array.getElem?_eq_some_iff.1 hgg).1, h1, h2⟩
/-- Nil, or a block with some room. -/
theorem Row.shape (h : Row w base e size v n f) : (v = .slice none 0 0 ∧ n = 0) ∨ ∃ g cap, v = .slice (some ⟨g, 0, none⟩) n cap ∧ base ≤ g ∧ g < w.heap.size ∧ n ≤ cap ∧ cap ≤ maxLen := by
  rcases h.2 with q | ⟨g, cap, cur, rfl, hb, hgg, h1, h2, _⟩
  · exact .inl q
  · exact .inr ⟨g, cap, rfl, hb, (Array.getElem?_eq_some_iff.1 hgg).1, h1, h2⟩
theorem Row.cell {g cap : Nat} (h : Row w base e size (.slice (some ⟨g, 0, none⟩) n cap) n f) (j : Nat) (hj : j < n * size) : w.cell? ⟨g, j, none⟩ = some (f j) := by
  rw [World.ownsRow.cellAt h j hj]; simp [hj]
theorem Row.frozen {g cap : Nat} (h : Row w base e size (.slice (some ⟨g, 0, none⟩) n cap) n f) (j : Nat) : w.frozen? ⟨g, j, none⟩ = false := World.ownsRow.frozenAt h j
theorem Row.set {g cap : Nat} (h : Row w base e size (.slice (some ⟨g, 0, none⟩) n cap) n f) (j : Nat) (u : Value) : Row (w.setCell ⟨g, j, none⟩ u) base e size (.slice (some ⟨g, 0, none⟩) n cap) n (upd f j u) := by
  have := (World.ownsRow.stored h j u).1
  unfold Row
  rw [show (List.range (n * size)).map (upd f j u) = ((List.range (n * size)).map f).set j u from ?_]
  · exact this
  · refine List.ext_getElem (by simp) fun i h1 h2 => ?_
    simp only [List.getElem_map, List.getElem_range, List.getElem_set]
    unfold upd
    by_cases q : i = j
    · subst q; simp
    · simp [q, Ne.symm q]
theorem Row.lt (h : Row w base e size v n f) {g : Nat} (hg : v.ownBlock = some g) : base ≤ g ∧ g < w.heap.size := World.ownsRow.lt h g hg
end
structure GW (w : World) where
  W : World
  gr : Gr w W
theorem wp_region_gw {P : Program} {id : Nat} {Q : Exit → Act → World → Prop} {a : Act} {w : World} {l : List Oper} (hm : P.follows .mixedOrders = true) (hB : Region.lexB .any l.toArray = true)
    (h : wpQuiet P l.toArray (fun w' => ∃ p : GW w, w' = p.W) (fun a' => ∀ w', (∃ p : GW w, w' = p.W) → Q .normal a' w') l a) : (Code.region id l.toArray true).wp P Q a w :=
  wp_region_quiet (C := fun w' => ∃ p : GW w, w' = p.W) hm hB ⟨⟨w.drew, (Ke.refl _ w).drew⟩, rfl⟩ (by simpa using h)
theorem gw_cell {w : World} {a : Addr} {v : Value} (h : w.cell? a = some v) (p : GW w) : p.W.cell? a = some v := gcell p.gr h
theorem gw_of {P : Program} {f : FuncId} {args : Array Value} {w : World} {p : GW w} {v : Value} (h : Calls P f args p.W fun e w' => e = .returned v ∧ Gr p.W w') :
    Calls P f args p.W fun e w' => e = .returned v ∧ ∃ q : GW w, w' = q.W :=
  h.mono fun _ w' ⟨he, hg⟩ => ⟨he, ⟨w', p.gr.trans hg⟩, rfl⟩
theorem gw_self {w : World} (p : GW w) : ∃ q : GW w, p.W = q.W := ⟨p, rfl⟩
/-- append(s, x) onto a row of the call's own: where it lies. -/
theorem append_own_at {P : Program} (w : World) (base : Nat) (t ty e : TypeId) (i : TypeInfo) (z : Value) (size bytes : Nat) (ht : P.underlying t = some (.slice e)) (hi : P.info? e = some i) (hz : i.zero = some z)
    (hsize : i.size = size) (hby : i.bytes = bytes) (hzs : z.cells.size = size) (hsz : 0 < size)
    (v : Value) (n : Nat) (xs : List Value) (hown : w.ownsRow base e size v n xs)
    (a : Addr) (m c : Nat) (news : List Value) (hm : 0 < m) (hl : news.length = m * size) (hnews : ∀ j u, news[j]? = some u → w.cell? (a.add j) = some u) (h1 : ∀ u ∈ news, u.oneCell' = true)
    (h63 : n + m ≤ maxLen) (hbytes : (n + m) * bytes ≤ 140737488355328) (hbase : base ≤ w.heap.size) :
    ∃ v' w', (Builtin.append_ #[t, t] ty #[v, .slice (some a) m c]).run P w = .ok v' w' ∧ w'.ownsRow base e size v' (n + m) (xs ++ news) ∧ w.grownBy w' v.ownBlock ∧ (v'.ownBlock = v.ownBlock ∨ v'.ownBlock = some w.heap.size) := by
  obtain ⟨v', w', hr, h2, h3, h4⟩ := run_append_own (P := P) w base t ty e i z size bytes ht hi hz hsize hby hzs hsz v n xs hown a m c news hl hnews h1 h63 hbytes hbase
  refine ⟨v', w', hr, h2, h3, ?_⟩
  subst hsize
  subst hby
  have hsmall : n + m ≤ 9223372036854775807 := by simp only [maxLen] at h63; omega
  rcases hown.2 with ⟨rfl, rfl⟩ | ⟨g, cap, cur, rfl, hbg, hg, hnc, hcm, hcs, htake⟩
  · have hr2 := run_append_nil (P := P) w t ty e i z ht hi hz a m c news hl hnews hm (by omega) (by simp only [Nat.zero_add] at hbytes; omega)
    rw [hr] at hr2
    cases hr2
    exact .inr rfl
  · by_cases hroom : n + m ≤ cap
    · have hfit : n * i.size + news.length ≤ cur.size := by rw [hl, hcs, ← Nat.add_mul]; exact Nat.mul_le_mul_right _ hroom
      have hr2 := run_append_room (P := P) w t ty e i ht hi g n cap cur hg a m c news hl hnews h1 hroom hfit
      rw [hr] at hr2
      cases hr2
      exact .inl rfl
    · have hr2 := run_append_grow (P := P) w t ty e i z ht hi hz ⟨g, 0, none⟩ n cap xs hown.1 (hown.cells (g := g) rfl) a m c news hl hnews (by omega) (by omega) (growslice_fits (by omega) hbytes)
      rw [hr] at hr2
      cases hr2
      exact .inr rfl
/-- append onto a row of the call's own, also of nothing: where it lies. -/
theorem append_own_any {P : Program} (w : World) (base : Nat) (t ty e : TypeId) (i : TypeInfo) (z : Value) (size bytes : Nat) (ht : P.underlying t = some (.slice e)) (hi : P.info? e = some i) (hz : i.zero = some z)
    (hsize : i.size = size) (hby : i.bytes = bytes) (hzs : z.cells.size = size) (hsz : 0 < size)
    (v : Value) (n : Nat) (xs : List Value) (hown : w.ownsRow base e size v n xs)
    (a : Addr) (m c : Nat) (news : List Value) (hl : news.length = m * size) (hnews : ∀ j u, news[j]? = some u → w.cell? (a.add j) = some u) (h1 : ∀ u ∈ news, u.oneCell' = true)
    (h63 : n + m ≤ maxLen) (hbytes : (n + m) * bytes ≤ 140737488355328) (hbase : base ≤ w.heap.size) :
    ∃ v' w', (Builtin.append_ #[t, t] ty #[v, .slice (some a) m c]).run P w = .ok v' w' ∧ w'.ownsRow base e size v' (n + m) (xs ++ news) ∧ w.grownBy w' v.ownBlock ∧ (v'.ownBlock = v.ownBlock ∨ v'.ownBlock = some w.heap.size) := by
  rcases Nat.eq_zero_or_pos m with h0 | h0
  · subst h0
    obtain ⟨v', w', hr, h2, h3, h4⟩ := run_append_own (P := P) w base t ty e i z size bytes ht hi hz hsize hby hzs hsz v n xs hown a 0 c news hl hnews h1 h63 hbytes hbase
    refine ⟨v', w', hr, h2, h3, .inl ?_⟩
    subst hsize
    rcases hown.2 with ⟨rfl, rfl⟩ | ⟨g, cap, cur, rfl, hbg, hg, hnc, hcm, hcs, htake⟩
    · rw [h4.2 ⟨rfl, rfl⟩]
    · have hr2 := run_append_room (P := P) w t ty e i ht hi g n cap cur hg a 0 c news hl hnews h1 (by omega) (by rw [hl, hcs]; simp; exact Nat.mul_le_mul_right _ hnc)
      rw [hr] at hr2
      cases hr2
      rfl
  · exact append_own_at w base t ty e i z size bytes ht hi hz hsize hby hzs hsz v n xs hown a m c news h0 hl hnews h1 h63 hbytes hbase
def iR (l : List Int) (j : Nat) : Value := .int .i64 (l.getD j 0)
abbrev RowI (w : World) (base : Nat) (v : Value) (l : List Int) : Prop := Row w base 3 1 v l.length (iR l)
theorem rowI_of {w : World} {base : Nat} {v : Value} {l : List Int} (h : w.ownsRow base 3 1 v l.length (l.map (Value.int .i64))) : RowI w base v l := by
  show w.ownsRow base 3 1 v l.length ((List.range (l.length * 1)).map (iR l))
  rw [show (List.range (l.length * 1)).map (iR l) = l.map (Value.int .i64) from ?_]
  · exact h
  · refine List.ext_getElem (by simp) fun j h1 h2 => ?_
    have hj : j < l.length := by simpa using h2
    simp [iR, List.getD_eq_getElem?_getD, List.getElem?_eq_getElem hj]
theorem rowI_to {w : World} {base : Nat} {v : Value} {l : List Int} (h : RowI w base v l) : w.ownsRow base 3 1 v l.length (l.map (Value.int .i64)) := by
  have h' : w.ownsRow base 3 1 v l.length ((List.range (l.length * 1)).map (iR l)) := h
  rw [show (List.range (l.length * 1)).map (iR l) = l.map (Value.int .i64) from ?_] at h'
  · exact h'
  · refine List.ext_getElem (by simp) fun j h1 h2 => ?_
    have hj : j < l.length := by simpa using h2
    simp [iR, List.getD_eq_getElem?_getD, List.getElem?_eq_getElem hj]
theorem rowI_nil (w : World) (base : Nat) : RowI w base (.slice none 0 0) [] := rowI_of (World.ownsRow_nil _ _ _ _)
theorem rowI_keep {w w' : World} {base : Nat} {v : Value} {l : List Int} {F : Nat → Prop} (h : RowI w base v l) (k : Ke F w w') (hF : ∀ j, v.ownBlock = some j → ¬ F j) : RowI w' base v l := Row.keep h (fun j hj => k.block j (Row.lt h hj).2 (hF j hj))
theorem rowI_gr {w w' : World} {base : Nat} {v : Value} {l : List Int} (h : RowI w base v l) (k : Gr w w') : RowI w' base v l := rowI_keep h k (fun _ _ z => z)
theorem rowI_form {w : World} {base : Nat} {v : Value} {l : List Int} (h : RowI w base v l) : ∃ xa ca, v = .slice xa l.length ca := by
  rcases Row.shape h with ⟨rfl, h0⟩ | ⟨g, cap, rfl, _⟩
  · exact ⟨none, 0, by rw [h0]⟩
  · exact ⟨_, _, rfl⟩
theorem rowI_cell {w : World} {base : Nat} {g cap n : Nat} {l : List Int} (h : RowI w base (.slice (some ⟨g, 0, none⟩) n cap) l) (hn : n = l.length) (j : Nat) (hj : j < l.length) : w.cell? ⟨g, j, none⟩ = some (.int .i64 (l.getD j 0)) := by
  subst hn
  have := Row.cell h j (by omega)
  exact this
theorem info3 : ∃ i, Tryd.prog.info? 3 = some i ∧ i.size = 1 ∧ i.bytes = 8 ∧ i.zero = some (.int .i64 0) := by
  have h1 : (Tryd.prog.info? 3).map (·.size) = some 1 := by kernel_rfl
  have h2 : (Tryd.prog.info? 3).map (·.bytes) = some 8 := by kernel_rfl
  have h3 : (Tryd.prog.info? 3).map (·.zero) = some (some (.int .i64 0)) := by kernel_rfl
  cases h : Tryd.prog.info? 3 with
  | none => rw [h] at h1; cases h1
  | some i =>
    rw [h] at h1 h2 h3
    exact ⟨i, rfl, by simpa using h1, by simpa using h2, by simpa using h3⟩
/-- One number more. -/
theorem row_more {w : World} {base : Nat} {v : Value} {l : List Int} (h : RowI w base v l) (hb : base ≤ w.heap.size) (hl : l.length ≤ 1000000) (x : Int) :
    ∃ v' w1, (∀ ty, (Builtin.append_ #[30, 30] ty #[v, .slice (some ⟨w.heap.size, 0, none⟩) 1 1]).run Tryd.prog (w.alloc (.cells #[.int .i64 x] 3)) = .ok v' w1) ∧ (w.alloc (.cells #[.int .i64 x] 3)).grownBy w1 v.ownBlock ∧ RowI w1 base v' (l ++ [x]) ∧ (v'.ownBlock = v.ownBlock ∨ v'.ownBlock = some (w.heap.size + 1)) := by
  obtain ⟨i, hi, h1, h2, h3⟩ := info3
  have h' := rowI_to (Row.keep h (fun g hg => Below.heap_alloc w (.cells #[.int .i64 x] 3) g (Row.lt h hg).2))
  obtain ⟨v', w1, hr, ho, hg, ha⟩ := append_own_at (P := Tryd.prog) (w.alloc (.cells #[.int .i64 x] 3)) base 30 30 3 i _ 1 8 Tryd.underlying30 hi h3 h1 h2 rfl (by omega) v l.length _ h' ⟨w.heap.size, 0, none⟩ 1 1 [.int .i64 x] (by omega) rfl (fun j u hj => by
    rcases j with _ | j
    · cases hj; simp [go_sem, Addr.add]
    · simp at hj) (by simp [Value.oneCell']) (by unfold maxLen; omega) (by omega) (by simp; omega)
  refine ⟨v', w1, fun ty => hr, hg, ?_, by simpa using ha⟩
  refine rowI_of ?_
  rw [List.length_append, List.map_append]
  exact ho
theorem rowI_lit (w : World) (l : List Int) (cs : Array Value) (hcs : cs = (l.map (Value.int .i64)).toArray) (hl : l.length ≤ 1000) : RowI (w.alloc (.cells cs 3)) w.heap.size (.slice (some ⟨w.heap.size, 0, none⟩) l.length l.length) l := by
  have blk : (w.alloc (.cells cs 3)).heap[w.heap.size]? = some (.cells cs 3 (0, 0)) := heap_alloc_new w _
  refine rowI_of ⟨by simp, .inr ⟨w.heap.size, l.length, cs, rfl, Nat.le_refl _, blk, Nat.le_refl _, by unfold maxLen; omega, by rw [hcs]; simp, by rw [hcs]; simp [List.take_of_length_le]⟩⟩
theorem lit_ne {x y : Int} (h : x ≠ y) : (Lit.int .i64 x) ≠ (Lit.int .i64 y) := fun e => h (by cases e; rfl)
theorem keyLit (x : Int) : WideAt.IsKeyLit (Lit.int .i64 x) := by trivial
theorem law3 : Keyed Tryd.prog 3 := int_keyed Tryd.underlying3
theorem zero3 (w : World) : (zeroValue 3).run Tryd.prog w = .ok (.int .i64 0) w := by kernel_rfl
def tabB : Nat := 0
/-- The library's table. -/
def Tab (w : World) : Prop := ∀ j, j < 64 → w.cell? ⟨tabB, j, none⟩ = some (.int .u8 (Lib.deBruijn64tab.getD j 0))
theorem ctz_core (x k idx : Nat) (w : World) (hb : ((x : Int) == 0) = false)
    (key : IntKind.u64.wrap (bits BinOp.and IntKind.u64 (x : Int) (IntKind.u64.wrap (-(x : Int))) * 285870213051353865) / 288230376151711744 = (idx : Int))
    (hi : idx < 64) (hk : k < 64) (hcell : w.cell? ⟨0, idx, none⟩ = some (.int .u8 k)) :
    Calls Tryd.prog 38 #[.int .u64 x] w fun e w' => e = .returned (.int .i64 k) ∧ w' = w := by
  go_enter Tryd.func38, Tryd.ntmps38
  go_wp2_with (simp only [key])
  go_ret
  exact ⟨rfl, rfl⟩
theorem ctz_any (x : Nat) (hx : x < 18446744073709551616) (hx0 : x ≠ 0) (w : World) (hT : Tab w) : Calls Tryd.prog 38 #[.int .u64 x] w fun e w' => e = .returned (.int .i64 (Lib.ctz 64 x)) ∧ w' = w := by
  obtain ⟨hlow, hk⟩ := Lib.lowest_bit 64 x hx0 hx
  obtain ⟨hi, htab⟩ := Lib.deBruijn64_at _ hk
  have hcell := hT _ hi
  rw [htab] at hcell
  exact ctz_core x _ _ w (by simp; omega) (tz64_key x _ hx hx0 hlow) hi hk hcell
end Go.Proofs.YtnmdidglfegdcaaDoor
