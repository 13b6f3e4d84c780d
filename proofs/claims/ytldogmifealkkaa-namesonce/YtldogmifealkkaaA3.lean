/- Rows of words, the map of words; the tables on their way. -/
import Derived.Test.YtldogmifealkkaaA2
import Derived.Maps.OwnSet
import Derived.Maps.OwnOps
import Derived.Deep.RegionLaw
import Derived.Deep.OwnRows
import Derived.OwnWalk
import Derived.WalkSpells
namespace Go.Proofs.Ytldogmifealkkaa
open Go.RowKit Go.Lib Go.Maps
set_option linter.unusedVariables false

/-- A row of the call's own, its cells by their number. -/
def Row (w : World) (base : Nat) (e : TypeId) (size : Nat) (v : Value) (n : Nat) (f : Nat → Value) : Prop := w.ownsRow base e size v n ((List.range (n * size)).map f)
section
variable {w w' : World} {base : Nat} {e : TypeId} {size : Nat} {v : Value} {n : Nat} {f f' : Nat → Value}
theorem Row.congr (h : Row w base e size v n f) (q : ∀ j, j < n * size → f' j = f j) : Row w base e size v n f' := by
  unfold Row
  rw [show (List.range (n * size)).map f' = (List.range (n * size)).map f from List.map_congr_left (fun j hj => q j (List.mem_range.1 hj))]
  exact h
theorem Row.keep (h : Row w base e size v n f) (q : ∀ g, v.ownBlock = some g → w'.heap[g]? = w.heap[g]?) : Row w' base e size v n f := by
  refine ⟨h.1, ?_⟩
  rcases h.2 with hn | ⟨g, cap, cur, rfl, hb, hgg, rest⟩
  · exact .inl hn
  · exact .inr ⟨g, cap, cur, rfl, hb, (q g rfl).trans hgg, rest⟩
theorem Row.form (h : Row w base e size v n f) (hn : 0 < n) : ∃ g cap, v = .slice (some ⟨g, 0, none⟩) n cap ∧ base ≤ g ∧ g < w.heap.size ∧ n ≤ cap ∧ cap ≤ maxLen := by
  rcases h.2 with ⟨_, q⟩ | ⟨g, cap, cur, rfl, hb, hgg, h1, h2, _⟩
  · omega
  · exact ⟨g, cap, rfl, hb, (Array.getElem?_eq_some_iff.1 hgg).1, h1, h2⟩
/-- Nil, or a block with some room. -/
theorem Row.shape (h : Row w base e size v n f) : (v = .slice none 0 0 ∧ n = 0) ∨ ∃ g cap, v = .slice (some ⟨g, 0, none⟩) n cap ∧ base ≤ g ∧ g < w.heap.size ∧ n ≤ cap ∧ cap ≤ maxLen := by
  rcases h.2 with q | ⟨g, cap, cur, rfl, hb, hgg, h1, h2, _⟩
  · exact .inl q
  · exact .inr ⟨g, cap, rfl, hb, (Array.getElem?_eq_some_iff.1 hgg).1, h1, h2⟩
theorem Row.cell {g cap : Nat} (h : Row w base e size (.slice (some ⟨g, 0, none⟩) n cap) n f) (j : Nat) (hj : j < n * size) : w.cell? ⟨g, j, none⟩ = some (f j) := by
  rw [World.ownsRow.cellAt h j hj]; simp [hj]
theorem Row.frozen {g cap : Nat} (h : Row w base e size (.slice (some ⟨g, 0, none⟩) n cap) n f) (j : Nat) : w.frozen? ⟨g, j, none⟩ = false := World.ownsRow.frozenAt h j
theorem Row.lt (h : Row w base e size v n f) {g : Nat} (hg : v.ownBlock = some g) : base ≤ g ∧ g < w.heap.size := World.ownsRow.lt h g hg
end
/-- append(s, x) onto a row of the call's own: where it lies. -/
theorem append_own_at {P : Program} (w : World) (base : Nat) (t ty e : TypeId) (i : TypeInfo) (z : Value) (size bytes : Nat) (ht : P.underlying t = some (.slice e)) (hi : P.info? e = some i) (hz : i.zero = some z)
    (hsize : i.size = size) (hby : i.bytes = bytes) (hzs : z.cells.size = size) (hsz : 0 < size)
    (v : Value) (n : Nat) (xs : List Value) (hown : w.ownsRow base e size v n xs)
    (a : Addr) (m c : Nat) (news : List Value) (hm : 0 < m) (hl : news.length = m * size) (hnews : ∀ j u, news[j]? = some u → w.cell? (a.add j) = some u) (h1 : ∀ u ∈ news, u.oneCell' = true)
    (h63 : n + m ≤ maxLen) (hbytes : (n + m) * bytes ≤ 140737488355328) (hbase : base ≤ w.heap.size) :
    ∃ v' w', (Builtin.append_ #[t, t] ty #[v, .slice (some a) m c]).run P w = .ok v' w' ∧ w'.ownsRow base e size v' (n + m) (xs ++ news) ∧ w.grownBy w' v.ownBlock ∧ (v'.ownBlock = v.ownBlock ∨ v'.ownBlock = some w.heap.size) := by
  obtain ⟨v', w', hr, h2, h3, h4⟩ := run_append_own (P := P) w base t ty e i z size bytes ht hi hz hsize hby hzs hsz v n xs hown a m c news hl hnews h1 h63 hbytes hbase
  refine ⟨v', w', hr, h2, h3, ?_⟩
  subst hsize
  subst hby
  have hsmall : n + m ≤ 9223372036854775807 := by simp only [maxLen] at h63; omega
  rcases hown.2 with ⟨rfl, rfl⟩ | ⟨g, cap, cur, rfl, hbg, hg, hnc, hcm, hcs, htake⟩
  · have hr2 := run_append_nil (P := P) w t ty e i z ht hi hz a m c news hl hnews hm (by omega) (by simp only [Nat.zero_add] at hbytes; omega)
    rw [hr] at hr2
    cases hr2
    exact .inr rfl
  · by_cases hroom : n + m ≤ cap
    · have hfit : n * i.size + news.length ≤ cur.size := by rw [hl, hcs, ← Nat.add_mul]; exact Nat.mul_le_mul_right _ hroom
      have hr2 := run_append_room (P := P) w t ty e i ht hi g n cap cur hg a m c news hl hnews h1 hroom hfit
      rw [hr] at hr2
      cases hr2
      exact .inl rfl
    · have hr2 := run_append_grow (P := P) w t ty e i z ht hi hz ⟨g, 0, none⟩ n cap xs hown.1 (hown.cells (g := g) rfl) a m c news hl hnews (by omega) (by omega) (growslice_fits (by omega) hbytes)
      rw [hr] at hr2
      cases hr2
      exact .inr rfl
theorem append_own_any {P : Program} (w : World) (base : Nat) (t ty e : TypeId) (i : TypeInfo) (z : Value) (size bytes : Nat) (ht : P.underlying t = some (.slice e)) (hi : P.info? e = some i) (hz : i.zero = some z)
    (hsize : i.size = size) (hby : i.bytes = bytes) (hzs : z.cells.size = size) (hsz : 0 < size)
    (v : Value) (n : Nat) (xs : List Value) (hown : w.ownsRow base e size v n xs)
    (a : Addr) (m c : Nat) (news : List Value) (hl : news.length = m * size) (hnews : ∀ j u, news[j]? = some u → w.cell? (a.add j) = some u) (h1 : ∀ u ∈ news, u.oneCell' = true)
    (h63 : n + m ≤ maxLen) (hbytes : (n + m) * bytes ≤ 140737488355328) (hbase : base ≤ w.heap.size) :
    ∃ v' w', (Builtin.append_ #[t, t] ty #[v, .slice (some a) m c]).run P w = .ok v' w' ∧ w'.ownsRow base e size v' (n + m) (xs ++ news) ∧ w.grownBy w' v.ownBlock ∧ (v'.ownBlock = v.ownBlock ∨ v'.ownBlock = some w.heap.size) := by
  rcases Nat.eq_zero_or_pos m with h0 | h0
  · subst h0
    obtain ⟨v', w', hr, h2, h3, h4⟩ := run_append_own (P := P) w base t ty e i z size bytes ht hi hz hsize hby hzs hsz v n xs hown a 0 c news hl hnews h1 h63 hbytes hbase
    refine ⟨v', w', hr, h2, h3, .inl ?_⟩
    subst hsize
    rcases hown.2 with ⟨rfl, rfl⟩ | ⟨g, cap, cur, rfl, hbg, hg, hnc, hcm, hcs, htake⟩
    · rw [h4.2 ⟨rfl, rfl⟩]
    · have hr2 := run_append_room (P := P) w t ty e i ht hi g n cap cur hg a 0 c news hl hnews h1 (by omega) (by rw [hl, hcs]; simp; exact Nat.mul_le_mul_right _ hnc)
      rw [hr] at hr2
      cases hr2
      rfl
  · exact append_own_at w base t ty e i z size bytes ht hi hz hsize hby hzs hsz v n xs hown a m c news h0 hl hnews h1 h63 hbytes hbase

/-- An append whose run is known, as one step of a region that draws. -/
theorem step_append_run {P : Program} {ops : Array Oper} {o : Oper} {a : Act} {w : World} {K : Act → World → Prop} {Q : Exit → Act → World → Prop} {X : Prop}
    (hg : o.guard = none) (s x : Operand) (t : TypeId) (hop : o.op = Op.call { callee := Callee.builtin Builtin.append, args := #[s, x], argTypes := #[t, t] })
    (vs vx : Value) (hs : a.eval s = vs) (hx : a.eval x = vx) (v' : Value) (w' : World) (hr : ∀ ty, (Builtin.append_ #[t, t] ty #[vs, vx]).run P w = .ok v' w') (hK : K (a.put o.dst v') w') :
    if Region.wanted o (yielded ops a.tmps) = true then Oper.wp P o a w K Q else X := by
  have hw : Region.wanted o (yielded ops a.tmps) = true := by simp [Region.wanted, hg]
  rw [if_pos hw]
  unfold Oper.wp execOp
  simp only [hop, resolve, invoke, builtin, Sem.run_bind, Sem.run_pure, Result.andThen_ok, List.map_toArray, List.map_cons, List.map_nil, hs, hx, hr]
  exact hK


/-! ### a row of words -/
theorem info9 : ∃ i, Try.prog.info? 9 = some i ∧ i.size = 1 ∧ i.bytes = 16 ∧ i.zero = some (.string ⟨#[]⟩) := by
  have h1 : (Try.prog.info? 9).map (·.size) = some 1 := by kernel_rfl
  have h2 : (Try.prog.info? 9).map (·.bytes) = some 16 := by kernel_rfl
  have h3 : (Try.prog.info? 9).map (·.zero) = some (some (.string ⟨#[]⟩)) := by kernel_rfl
  cases h : Try.prog.info? 9 with
  | none => rw [h] at h1; cases h1
  | some i =>
    rw [h] at h1 h2 h3
    exact ⟨i, rfl, by simpa using h1, by simpa using h2, by simpa using h3⟩
def sw (f : Nat → ByteArray) (j : Nat) : Value := .string (f j)
/-- What an append of one word leaves. -/
structure ApP (w : World) (base : Nat) (f : Nat → ByteArray) (v : Value) (n : Nat) (v' : Value) (w' : World) : Prop where
  row : Row w' base 9 1 v' n (sw f)
  gr : w.grownBy w' v.ownBlock
  at_ : v'.ownBlock = v.ownBlock ∨ v'.ownBlock = some w.heap.size
theorem app_word (w : World) (base : Nat) (f : Nat → ByteArray) (v : Value) (n : Nat) (h : Row w base 9 1 v n (sw f)) (hb : base ≤ w.heap.size) (hl : n ≤ 1000) (a : Addr) (hc : w.cell? a = some (.string (f n))) :
    ∃ v' w1, (∀ ty, (Builtin.append_ #[26, 26] ty #[v, .slice (some a) 1 1]).run Try.prog w = .ok v' w1) ∧ ApP w base f v (n + 1) v' w1 := by
  obtain ⟨i, hi, h1, h2, h3⟩ := info9
  obtain ⟨v', w1, hr, ho, hg, ha⟩ := append_own_at (P := Try.prog) w base 26 26 9 i _ 1 16 Try.underlying26 hi h3 h1 h2 rfl (by omega) v n _ h a 1 1 [.string (f n)] (by omega) rfl (fun j u hj => by
    rcases j with _ | j
    · simp at hj; subst hj; simpa [Addr.add] using hc
    · simp at hj) (fun u hu => by simp at hu; subst hu; rfl) (by unfold maxLen; omega) (by omega) hb
  refine ⟨v', w1, fun ty => hr, ?_, hg, ha⟩
  unfold Row
  rw [show (List.range ((n + 1) * 1)).map (sw f) = (List.range (n * 1)).map (sw f) ++ [.string (f n)] by simp [List.range_succ, sw]]
  exact ho

/-! ### the map of words -/
/-- The first m words of the commands. -/
structure MapN (D : DataW Unit) (m : Nat) : Prop where
  has : ∀ s : List UInt8, Maps.has D (.string s) = true ↔ ∃ j, 1 ≤ j ∧ j ≤ m ∧ (opW j).data.toList = s
  at_ : ∀ j, 1 ≤ j → j ≤ m → ∀ z, D.atKey (.string (opW j).data.toList) z = .lit (.int .i64 (j : Nat))
theorem slit_ne {x y : List UInt8} (h : x ≠ y) : (Lit.string x) ≠ (Lit.string y) := fun e => h (by cases e; rfl)
theorem skey (x : List UInt8) : WideAt.IsKeyLit (Lit.string x) := by trivial
/-- The words are all unlike. -/
theorem opW_inj {i j : Nat} (hi : 1 ≤ i ∧ i ≤ 8) (hj : 1 ≤ j ∧ j ≤ 8) (h : (opW i).data.toList = (opW j).data.toList) : i = j := by
  rcases (show i = 1 ∨ i = 2 ∨ i = 3 ∨ i = 4 ∨ i = 5 ∨ i = 6 ∨ i = 7 ∨ i = 8 by omega) with rfl | rfl | rfl | rfl | rfl | rfl | rfl | rfl <;>
  rcases (show j = 1 ∨ j = 2 ∨ j = 3 ∨ j = 4 ∨ j = 5 ∨ j = 6 ∨ j = 7 ∨ j = 8 by omega) with rfl | rfl | rfl | rfl | rfl | rfl | rfl | rfl <;>
  first | rfl | exact absurd h (by decide)
theorem MapN.start : MapN (.map []) 0 := ⟨fun s => by simp [Maps.has]; intro j h1 h2; omega, fun j h1 h2 => by omega⟩
theorem MapN.add {D : DataW Unit} {m : Nat} (h : MapN D m) (hD : IsMap D) (hm : m < 8) : MapN (D.put (.string (opW (m + 1)).data.toList) (.lit (.int .i64 ((m + 1 : Nat) : Int)))) (m + 1) := by
  refine ⟨fun s => ?_, fun j h1 h2 z => ?_⟩
  · by_cases e : s = (opW (m + 1)).data.toList
    · subst e
      exact ⟨fun _ => ⟨m + 1, by omega, by omega, rfl⟩, fun _ => has_put_same hD (skey _) _⟩
    · rw [has_put_other (slit_ne e), h.has s]
      constructor
      · rintro ⟨j, a, b, c⟩; exact ⟨j, a, by omega, c⟩
      · rintro ⟨j, a, b, c⟩
        refine ⟨j, a, ?_, c⟩
        rcases Nat.lt_or_ge m j with q | q
        · exact absurd c.symm (by rw [show j = m + 1 by omega]; exact e)
        · exact q
  · by_cases e : j = m + 1
    · subst e; exact atKey_put_same hD (skey _) _ _
    · rw [atKey_put_other (slit_ne (fun q => e (opW_inj (by omega) (by omega) q))), h.at_ j h1 (by omega)]
/-- The number of a word, nought if it has none. -/
def numW (s : ByteArray) : Nat :=
  if s = opW 1 then 1 else if s = opW 2 then 2 else if s = opW 3 then 3 else if s = opW 4 then 4 else if s = opW 5 then 5 else if s = opW 6 then 6 else if s = opW 7 then 7 else if s = opW 8 then 8 else 0
theorem numW_le (s : ByteArray) : numW s ≤ 8 := by unfold numW; grind
theorem numW_pos {s : ByteArray} (h : 0 < numW s) : s = opW (numW s) := by
  unfold numW at *
  by_cases h1 : s = opW 1
  · simp [h1]
  by_cases h2 : s = opW 2
  · simp [h2] at *
    grind
  grind
theorem ba_ext {a b : ByteArray} (h : a.data.toList = b.data.toList) : a = b := by
  cases a; cases b; congr 1; exact Array.toList_inj.1 h
theorem numW_op {j : Nat} (h1 : 1 ≤ j) (h2 : j ≤ 8) : numW (opW j) = j := by
  rcases (show j = 1 ∨ j = 2 ∨ j = 3 ∨ j = 4 ∨ j = 5 ∨ j = 6 ∨ j = 7 ∨ j = 8 by omega) with rfl | rfl | rfl | rfl | rfl | rfl | rfl | rfl <;> decide
theorem MapN.look {D : DataW Unit} (h : MapN D 8) (s : ByteArray) : D.atKey (.string s.data.toList) (.lit (.int .i64 0)) = .lit (.int .i64 (numW s : Nat)) ∧ Maps.has D (.string s.data.toList) = decide (0 < numW s) := by
  rcases Nat.eq_zero_or_pos (numW s) with q | q
  · have hn : Maps.has D (.string s.data.toList) = false := by
      cases c : Maps.has D (.string s.data.toList) with
      | false => rfl
      | true =>
        obtain ⟨j, a, b, e⟩ := (h.has _).1 c
        have := ba_ext e
        rw [← this, numW_op a b] at q
        omega
    rw [atKey_of_not_has hn, hn, q]
    exact ⟨rfl, by simp⟩
  · have e := numW_pos q
    have l := numW_le s
    have hh : Maps.has D (.string s.data.toList) = true := (h.has _).2 ⟨numW s, q, l, by rw [← e]⟩
    rw [hh]
    refine ⟨?_, by simp [q]⟩
    have := h.at_ (numW s) q l (.lit (.int .i64 0))
    rw [← e] at this
    exact this

theorem law9 : Keyed Try.prog 9 := string_keyed Try.underlying9
theorem zero3 (w : World) : (zeroValue 3).run Try.prog w = .ok (.int .i64 0) w := by kernel_rfl
theorem own_keep {R : Value → Option (DataW Unit × List MemPlace)} {w w' : World} {b n : Nat} {D : DataW Unit} (h : w.ownsMap Try.prog 9 R b n D) (e : w'.heap[b]? = w.heap[b]?) : w'.ownsMap Try.prog 9 R b n D := by
  obtain ⟨es, cl, h1, h2⟩ := h
  exact ⟨es, cl, e.trans h1, h2⟩

/-! ### the tables on their way -/
/-- The tables t at s + 4, the result's box at s, ops at s + 1, modes at s + 2, numbers at s + 3; k errors, m numbers are there. -/
structure MT (w W : World) (s : Nat) (ve : Value) (k m : Nat) : Prop where
  gr : Gr w W
  se : s = w.heap.size
  r : ∀ o, o < 4 → ∃ v, W.cell? ⟨s, o, none⟩ = some v
  fr : ∀ o, W.frozen? ⟨s, o, none⟩ = false
  t0 : W.cell? ⟨s + 4, 0, none⟩ = some (.slice (some ⟨s + 1, 0, none⟩) 9 9)
  t1 : W.cell? ⟨s + 4, 1, none⟩ = some (.slice (some ⟨s + 2, 0, none⟩) 5 5)
  t2 : W.cell? ⟨s + 4, 2, none⟩ = some ve
  t3 : W.cell? ⟨s + 4, 3, none⟩ = some (.map (some (s + 3)))
  ft : ∀ o, W.frozen? ⟨s + 4, o, none⟩ = false
  op : Wd W (s + 1) 9 opW
  mo : Wd W (s + 2) 5 moW
  er : Row W (s + 5) 9 1 ve k (sw erW)
  mp : ∃ D, W.ownsMap Try.prog 9 (plainElem Try.prog 3) (s + 3) m D ∧ MapN D m
section
variable {w W W' : World} {s k m : Nat} {ve : Value}
theorem MT.lt (h : MT w W s ve k m) : s + 4 < W.heap.size := cell_lt h.t0
theorem MT.keep (h : MT w W s ve k m) (q : ∀ g, (s ≤ g ∧ g ≤ s + 4) ∨ ve.ownBlock = some g → W'.heap[g]? = W.heap[g]?) (g : Gr w W') : MT w W' s ve k m := by
  obtain ⟨D, o, n⟩ := h.mp
  have b0 := q s (.inl ⟨by omega, by omega⟩)
  have b1 := q (s + 1) (.inl ⟨by omega, by omega⟩)
  have b2 := q (s + 2) (.inl ⟨by omega, by omega⟩)
  have b3 := q (s + 3) (.inl ⟨by omega, by omega⟩)
  have b4 := q (s + 4) (.inl ⟨by omega, by omega⟩)
  exact ⟨g, h.se, fun o ho => by obtain ⟨v, hv⟩ := h.r o ho; exact ⟨v, (World.cell?_of_block (a := ⟨s, o, none⟩) b0).trans hv⟩, fun o => (World.frozen?_of_block (a := ⟨s, o, none⟩) b0).trans (h.fr o),
    (World.cell?_of_block b4).trans h.t0, (World.cell?_of_block b4).trans h.t1, (World.cell?_of_block b4).trans h.t2, (World.cell?_of_block b4).trans h.t3, fun o => (World.frozen?_of_block (a := ⟨s + 4, o, none⟩) b4).trans (h.ft o),
    h.op.keep b1, h.mo.keep b2, h.er.keep (fun g hg => q g (.inr hg)), D, own_keep o b3, n⟩
theorem MT.gro (h : MT w W s ve k m) (g : Gr W W') : MT w W' s ve k m := h.keep (fun j hj => g.block j (by
  have := h.lt
  rcases hj with q | q
  · omega
  · exact (h.er.lt q).2) (fun f => f)) (h.gr.gr g)
/-- One word more. -/
theorem MT.more {v' : Value} {w1 : World} (h : MT w W s ve k m) (a : ApP W (s + 5) erW ve (k + 1) v' w1) : MT w (w1.setCell ⟨s + 4, 2, none⟩ v') s v' (k + 1) m := by
  have l := h.lt
  have e5 : ∀ g, ve.ownBlock = some g → s + 5 ≤ g := fun g hg => (h.er.lt hg).1
  have bl : ∀ g, g ≤ s + 4 → w1.heap[g]? = W.heap[g]? := fun g hg => a.gr.block g (by omega) (fun q => by have := e5 g q.symm; omega)
  have bo : ∀ g, g ≤ s + 3 → (w1.setCell ⟨s + 4, 2, none⟩ v').heap[g]? = W.heap[g]? := fun g hg => (Below.heap_setCell _ _ _ _ (by simp; omega)).trans (bl g (by omega))
  have c4 : ∀ o, w1.cell? ⟨s + 4, o, none⟩ = W.cell? ⟨s + 4, o, none⟩ := fun o => World.cell?_of_block (bl (s + 4) (by omega))
  obtain ⟨D, o, n⟩ := h.mp
  have hs : w.heap.size ≤ s := by rw [h.se]; omega
  refine ⟨((h.gr.grown a.gr (fun g hg => .inr (by have := e5 g hg; omega))).set (.inr (by simp; omega)) _), h.se, fun o ho => by obtain ⟨v, hv⟩ := h.r o ho; exact ⟨v, (World.cell?_of_block (a := ⟨s, o, none⟩) (bo s (by omega))).trans hv⟩, fun o => (World.frozen?_of_block (a := ⟨s, o, none⟩) (bo s (by omega))).trans (h.fr o), ?_, ?_, ?_, ?_, fun o => ?_, h.op.keep (bo _ (by omega)), h.mo.keep (bo _ (by omega)), ?_, D, own_keep o (bo _ (by omega)), n⟩
  · rw [World.cell?_setCell_other _ _ _ _ (by simp), c4]; exact h.t0
  · rw [World.cell?_setCell_other _ _ _ _ (by simp), c4]; exact h.t1
  · exact World.cell?_setCell_same _ _ _ ((c4 2).trans h.t2)
  · rw [World.cell?_setCell_other _ _ _ _ (by simp), c4]; exact h.t3
  · rw [World.frozen?_setCell]; exact (World.frozen?_of_block (a := ⟨s + 4, o, none⟩) (bl (s + 4) (by omega))).trans (h.ft o)
  · refine a.row.keep (fun g hg => Below.heap_setCell _ _ _ _ (by
      have := (a.row.lt hg).1
      simp; omega))
/-- One number more. -/
theorem MT.num {D : DataW Unit} {w1 : World} (h : MT w W s ve k m) (hm : m < 8) (hD : MapN D m) (hI : IsMap D) (t : W.mapTurned w1 (s + 3)) (o : w1.ownsMap Try.prog 9 (plainElem Try.prog 3) (s + 3) (m + 1) (D.put (.string (opW (m + 1)).data.toList) (.lit (.int .i64 ((m + 1 : Nat) : Int))))) : MT w w1 s ve k (m + 1) := by
  have l := h.lt
  have hs : w.heap.size ≤ s := by rw [h.se]; omega
  have e5 : ∀ g, ve.ownBlock = some g → s + 5 ≤ g := fun g hg => (h.er.lt hg).1
  have bl : ∀ g, g < W.heap.size → g ≠ s + 3 → w1.heap[g]? = W.heap[g]? := fun g hg hn => t.grown.block g hg (fun q => hn (by cases q; rfl))
  have c4 : ∀ o, w1.cell? ⟨s + 4, o, none⟩ = W.cell? ⟨s + 4, o, none⟩ := fun o => World.cell?_of_block (bl (s + 4) (by omega) (by omega))
  exact ⟨h.gr.grown t.grown (fun g hg => .inr (by cases hg; omega)), h.se, fun o ho => by obtain ⟨v, hv⟩ := h.r o ho; exact ⟨v, (World.cell?_of_block (a := ⟨s, o, none⟩) (bl s (by omega) (by omega))).trans hv⟩, fun o => (World.frozen?_of_block (a := ⟨s, o, none⟩) (bl s (by omega) (by omega))).trans (h.fr o),
    (c4 0).trans h.t0, (c4 1).trans h.t1, (c4 2).trans h.t2, (c4 3).trans h.t3, fun o => (World.frozen?_of_block (a := ⟨s + 4, o, none⟩) (bl (s + 4) (by omega) (by omega))).trans (h.ft o), h.op.keep (bl _ (by omega) (by omega)), h.mo.keep (bl _ (by omega) (by omega)), h.er.keep (fun g hg => bl g (h.er.lt hg).2 (by have := e5 g hg; omega)), _, o, hD.add hI hm⟩
end
end Go.Proofs.Ytldogmifealkkaa
