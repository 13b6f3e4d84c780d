/- Rows of weights in memory: append, a row built anew. -/
import Derived.Test.YtbimaaknjedonaaB3
import Derived.Deep.RegionLaw
import Derived.Deep.OwnRows
import Derived.OwnWalk
namespace Go.Proofs.Ytbimaaknjedonaa
open Go.RowKit Go.Lib Go.Maps
set_option linter.unusedVariables false

instance : Inhabited Wt := ⟨⟨0, 0, 0⟩⟩
/-- A row of the call's own, its cells by their number. -/
def Row (w : World) (base : Nat) (e : TypeId) (size : Nat) (v : Value) (n : Nat) (f : Nat → Value) : Prop := w.ownsRow base e size v n ((List.range (n * size)).map f)
section
variable {w w' : World} {base : Nat} {e : TypeId} {size : Nat} {v : Value} {n : Nat} {f f' : Nat → Value}
theorem Row.congr (h : Row w base e size v n f) (q : ∀ j, j < n * size → f' j = f j) : Row w base e size v n f' := by
  unfold Row
  rw [show (List.range (n * size)).map f' = (List.range (n * size)).map f from List.map_congr_left (fun j hj => q j (List.mem_range.1 hj))]
  exact h
theorem Row.keep (h : Row w base e size v n f) (q : ∀ g, v.ownBlock = some g → w'.heap[g]? = w.heap[g]?) : Row w' base e size v n f := by
  refine ⟨h.1, ?_⟩
  rcases h.2 with hn | ⟨g, cap, cur, rfl, hb, hgg, rest⟩
  · exact .inl hn
  · exact .inr ⟨g, cap, cur, rfl, hb, (q g rfl).trans hgg, rest⟩
theorem Row.form (h : Row w base e size v n f) (hn : 0 < n) : ∃ g cap, v = .slice (some ⟨g, 0, none⟩) n cap ∧ base ≤ g ∧ g < w.heap.size ∧ n ≤ cap ∧ cap ≤ maxLen := by
  rcases h.2 with ⟨_, q⟩ | ⟨g, cap, cur, rfl, hb, hgg, h1, h2, _⟩
  · omega
  · exact ⟨g, cap, rfl, hb, (Array.getElem?_eq_some_iff.1 hgg).1, h1, h2⟩
/-- Nil, or a block with some room. -/
theorem Row.shape (h : Row w base e size v n f) : (v = .slice none 0 0 ∧ n = 0) ∨ ∃ g cap, v = .slice (some ⟨g, 0, none⟩) n cap ∧ base ≤ g ∧ g < w.heap.size ∧ n ≤ cap ∧ cap ≤ maxLen := by
  rcases h.2 with q | ⟨g, cap, cur, rfl, hb, hgg, h1, h2, _⟩
  · exact .inl q
  · exact .inr ⟨g, cap, rfl, hb, (Array.getElem?_eq_some_iff.1 hgg).1, h1, h2⟩
theorem Row.cell {g cap : Nat} (h : Row w base e size (.slice (some ⟨g, 0, none⟩) n cap) n f) (j : Nat) (hj : j < n * size) : w.cell? ⟨g, j, none⟩ = some (f j) := by
  rw [World.ownsRow.cellAt h j hj]; simp [hj]
theorem Row.frozen {g cap : Nat} (h : Row w base e size (.slice (some ⟨g, 0, none⟩) n cap) n f) (j : Nat) : w.frozen? ⟨g, j, none⟩ = false := World.ownsRow.frozenAt h j
theorem Row.lt (h : Row w base e size v n f) {g : Nat} (hg : v.ownBlock = some g) : base ≤ g ∧ g < w.heap.size := World.ownsRow.lt h g hg
end
/-- append(s, x) onto a row of the call's own: where it lies. -/
theorem append_own_at {P : Program} (w : World) (base : Nat) (t ty e : TypeId) (i : TypeInfo) (z : Value) (size bytes : Nat) (ht : P.underlying t = some (.slice e)) (hi : P.info? e = some i) (hz : i.zero = some z)
    (hsize : i.size = size) (hby : i.bytes = bytes) (hzs : z.cells.size = size) (hsz : 0 < size)
    (v : Value) (n : Nat) (xs : List Value) (hown : w.ownsRow base e size v n xs)
    (a : Addr) (m c : Nat) (news : List Value) (hm : 0 < m) (hl : news.length = m * size) (hnews : ∀ j u, news[j]? = some u → w.cell? (a.add j) = some u) (h1 : ∀ u ∈ news, u.oneCell' = true)
    (h63 : n + m ≤ maxLen) (hbytes : (n + m) * bytes ≤ 140737488355328) (hbase : base ≤ w.heap.size) :
    ∃ v' w', (Builtin.append_ #[t, t] ty #[v, .slice (some a) m c]).run P w = .ok v' w' ∧ w'.ownsRow base e size v' (n + m) (xs ++ news) ∧ w.grownBy w' v.ownBlock ∧ (v'.ownBlock = v.ownBlock ∨ v'.ownBlock = some w.heap.size) := by
  obtain ⟨v', w', hr, h2, h3, h4⟩ := run_append_own (P := P) w base t ty e i z size bytes ht hi hz hsize hby hzs hsz v n xs hown a m c news hl hnews h1 h63 hbytes hbase
  refine ⟨v', w', hr, h2, h3, ?_⟩
  subst hsize
  subst hby
  have hsmall : n + m ≤ 9223372036854775807 := by simp only [maxLen] at h63; omega
  rcases hown.2 with ⟨rfl, rfl⟩ | ⟨g, cap, cur, rfl, hbg, hg, hnc, hcm, hcs, htake⟩
  · have hr2 := run_append_nil (P := P) w t ty e i z ht hi hz a m c news hl hnews hm (by omega) (by simp only [Nat.zero_add] at hbytes; omega)
    rw [hr] at hr2
    cases hr2
    exact .inr rfl
  · by_cases hroom : n + m ≤ cap
    · have hfit : n * i.size + news.length ≤ cur.size := by rw [hl, hcs, ← Nat.add_mul]; exact Nat.mul_le_mul_right _ hroom
      have hr2 := run_append_room (P := P) w t ty e i ht hi g n cap cur hg a m c news hl hnews h1 hroom hfit
      rw [hr] at hr2
      cases hr2
      exact .inl rfl
    · have hr2 := run_append_grow (P := P) w t ty e i z ht hi hz ⟨g, 0, none⟩ n cap xs hown.1 (hown.cells (g := g) rfl) a m c news hl hnews (by omega) (by omega) (growslice_fits (by omega) hbytes)
      rw [hr] at hr2
      cases hr2
      exact .inr rfl
theorem append_own_any {P : Program} (w : World) (base : Nat) (t ty e : TypeId) (i : TypeInfo) (z : Value) (size bytes : Nat) (ht : P.underlying t = some (.slice e)) (hi : P.info? e = some i) (hz : i.zero = some z)
    (hsize : i.size = size) (hby : i.bytes = bytes) (hzs : z.cells.size = size) (hsz : 0 < size)
    (v : Value) (n : Nat) (xs : List Value) (hown : w.ownsRow base e size v n xs)
    (a : Addr) (m c : Nat) (news : List Value) (hl : news.length = m * size) (hnews : ∀ j u, news[j]? = some u → w.cell? (a.add j) = some u) (h1 : ∀ u ∈ news, u.oneCell' = true)
    (h63 : n + m ≤ maxLen) (hbytes : (n + m) * bytes ≤ 140737488355328) (hbase : base ≤ w.heap.size) :
    ∃ v' w', (Builtin.append_ #[t, t] ty #[v, .slice (some a) m c]).run P w = .ok v' w' ∧ w'.ownsRow base e size v' (n + m) (xs ++ news) ∧ w.grownBy w' v.ownBlock ∧ (v'.ownBlock = v.ownBlock ∨ v'.ownBlock = some w.heap.size) := by
  rcases Nat.eq_zero_or_pos m with h0 | h0
  · subst h0
    obtain ⟨v', w', hr, h2, h3, h4⟩ := run_append_own (P := P) w base t ty e i z size bytes ht hi hz hsize hby hzs hsz v n xs hown a 0 c news hl hnews h1 h63 hbytes hbase
    refine ⟨v', w', hr, h2, h3, .inl ?_⟩
    subst hsize
    rcases hown.2 with ⟨rfl, rfl⟩ | ⟨g, cap, cur, rfl, hbg, hg, hnc, hcm, hcs, htake⟩
    · rw [h4.2 ⟨rfl, rfl⟩]
    · have hr2 := run_append_room (P := P) w t ty e i ht hi g n cap cur hg a 0 c news hl hnews h1 (by omega) (by rw [hl, hcs]; simp; exact Nat.mul_le_mul_right _ hnc)
      rw [hr] at hr2
      cases hr2
      rfl
  · exact append_own_at w base t ty e i z size bytes ht hi hz hsize hby hzs hsz v n xs hown a m c news h0 hl hnews h1 h63 hbytes hbase

/-- An append whose run is known, as one step of a region that draws. -/
theorem step_append_run {P : Program} {ops : Array Oper} {o : Oper} {a : Act} {w : World} {K : Act → World → Prop} {Q : Exit → Act → World → Prop} {X : Prop}
    (hg : o.guard = none) (s x : Operand) (t : TypeId) (hop : o.op = Op.call { callee := Callee.builtin Builtin.append, args := #[s, x], argTypes := #[t, t] })
    (vs vx : Value) (hs : a.eval s = vs) (hx : a.eval x = vx) (v' : Value) (w' : World) (hr : ∀ ty, (Builtin.append_ #[t, t] ty #[vs, vx]).run P w = .ok v' w') (hK : K (a.put o.dst v') w') :
    if Region.wanted o (yielded ops a.tmps) = true then Oper.wp P o a w K Q else X := by
  have hw : Region.wanted o (yielded ops a.tmps) = true := by simp [Region.wanted, hg]
  rw [if_pos hw]
  unfold Oper.wp execOp
  simp only [hop, resolve, invoke, builtin, Sem.run_bind, Sem.run_pure, Result.andThen_ok, List.map_toArray, List.map_cons, List.map_nil, hs, hx, hr]
  exact hK

def cellD (d : Wt) (o : Nat) : Value := if o = 0 then .int .i64 d.id else if o = 1 then .int .i64 d.e else .int .i64 d.p
def dc (A : List Wt) (j : Nat) : Value := cellD (A.getD (j / 3) default) (j % 3)
theorem dc_list (A : List Wt) : (List.range (A.length * 3)).map (dc A) = A.flatMap (fun d => [.int .i64 d.id, .int .i64 d.e, .int .i64 d.p]) := by
  induction A with
  | nil => rfl
  | cons d A ih =>
    rw [List.length_cons, show (A.length + 1) * 3 = 3 + A.length * 3 by omega, List.range_add, List.map_append, List.flatMap_cons, ← ih]
    congr 1
    rw [List.map_map]
    refine List.map_congr_left (fun j hj => ?_)
    simp only [Function.comp, dc]
    rw [show (3 + j) / 3 = j / 3 + 1 by omega, show (3 + j) % 3 = j % 3 by omega]
    rfl
theorem dc_append (A B : List Wt) : (List.range ((A ++ B).length * 3)).map (dc (A ++ B)) = (List.range (A.length * 3)).map (dc A) ++ (List.range (B.length * 3)).map (dc B) := by
  rw [dc_list, dc_list, dc_list, List.flatMap_append]
theorem dc_one (A : List Wt) (j : Nat) : (dc A j).oneCell' = true := by
  unfold dc cellD
  split
  · rfl
  · split <;> rfl
theorem info30 : ∃ i, Try.prog.info? 30 = some i ∧ i.size = 3 ∧ i.bytes = 24 ∧ i.zero = some (.agg #[.int .i64 0, .int .i64 0, .int .i64 0]) := by
  have h1 : (Try.prog.info? 30).map (·.size) = some 3 := by kernel_rfl
  have h2 : (Try.prog.info? 30).map (·.bytes) = some 24 := by kernel_rfl
  have h3 : (Try.prog.info? 30).map (·.zero) = some (some (.agg #[.int .i64 0, .int .i64 0, .int .i64 0])) := by kernel_rfl
  cases h : Try.prog.info? 30 with
  | none => rw [h] at h1; cases h1
  | some i =>
    rw [h] at h1 h2 h3
    exact ⟨i, rfl, by simpa using h1, by simpa using h2, by simpa using h3⟩
/-- What an append of deeds leaves. -/
structure ApP (w : World) (base : Nat) (v : Value) (A : List Wt) (v' : Value) (w' : World) : Prop where
  row : Row w' base 30 3 v' A.length (dc A)
  gr : w.grownBy w' v.ownBlock
  at_ : v'.ownBlock = v.ownBlock ∨ v'.ownBlock = some w.heap.size
theorem app_wt (w : World) (base : Nat) (v : Value) (A B : List Wt) (h : Row w base 30 3 v A.length (dc A)) (hb : base ≤ w.heap.size) (hl : A.length + B.length ≤ 100000) (a : Addr) (m c : Nat) (hm : m = B.length) (hc : ∀ j, j < m * 3 → w.cell? (a.add j) = some (dc B j)) :
    ∃ v' w1, (∀ ty, (Builtin.append_ #[26, 26] ty #[v, .slice (some a) m c]).run Try.prog w = .ok v' w1) ∧ ApP w base v (A ++ B) v' w1 := by
  subst hm
  obtain ⟨i, hi, h1, h2, h3⟩ := info30
  obtain ⟨v', w1, hr, ho, hg, ha⟩ := append_own_any (P := Try.prog) w base 26 26 30 i _ 3 24 Try.underlying26 hi h3 h1 h2 rfl (by omega) v A.length _ h a B.length c ((List.range (B.length * 3)).map (dc B)) (by simp) (fun j u hj => by
    obtain ⟨hlt, hv⟩ := List.getElem?_eq_some_iff.1 hj
    simp only [List.length_map, List.length_range] at hlt
    rw [List.getElem_map, List.getElem_range] at hv
    rw [← hv]
    exact hc j hlt) (fun u hu => by
    obtain ⟨j, _, rfl⟩ := List.mem_map.1 hu
    exact dc_one B j) (by unfold maxLen; omega) (by omega) hb
  refine ⟨v', w1, fun ty => hr, ?_, hg, ha⟩
  unfold Row
  rw [dc_append, List.length_append]
  exact ho
theorem app_wt_none (w : World) (base : Nat) (v : Value) (A : List Wt) (h : Row w base 30 3 v A.length (dc A)) :
    ∃ v' w1, (∀ ty, (Builtin.append_ #[26, 26] ty #[v, .slice none 0 0]).run Try.prog w = .ok v' w1) ∧ ApP w base v A v' w1 := by
  obtain ⟨i, hi, h1, h2, h3⟩ := info30
  exact ⟨v, w, fun ty => run_append_owned_none w base 26 ty 30 i 3 Try.underlying26 hi v A.length _ h, h, ⟨rfl, rfl, rfl, Nat.le_refl _, fun _ _ _ => rfl⟩, .inl rfl⟩

/-- A row as it is read: nil, or cells at an offset. -/
structure Mr (w : World) (a : Option Addr) (n cap : Nat) (A : List Wt) : Prop where
  len : A.length = n
  nc : n ≤ cap
  cm : cap ≤ maxLen
  at_ : (a = none ∧ cap = 0) ∨ ∃ g off, a = some ⟨g, off, none⟩ ∧ g < w.heap.size ∧ ∀ j, j < n * 3 → w.cell? ⟨g, off + j, none⟩ = some (dc A j)
section
variable {w w' : World} {base : Nat} {a : Option Addr} {n cap : Nat} {A : List Wt}
theorem Mr.start (w : World) : Mr w none 0 0 [] := ⟨rfl, Nat.le_refl _, by unfold maxLen; omega, .inl ⟨rfl, rfl⟩⟩
theorem Mr.gr (h : Mr w a n cap A) (k : Gr w w') : Mr w' a n cap A := by
  refine { h with at_ := ?_ }
  rcases h.at_ with e | ⟨g, off, e, hl, hc⟩
  · exact .inl e
  · exact .inr ⟨g, off, e, Nat.lt_of_lt_of_le hl k.size, fun j hj => kcell k (hc j hj)⟩
theorem mr_of_row {v : Value} (h : Row w base 30 3 v A.length (dc A)) : ∃ a cap, v = .slice a A.length cap ∧ Mr w a A.length cap A := by
  rcases h.shape with ⟨rfl, hn⟩ | ⟨g, cap, rfl, bg, lg, nc, cm⟩
  · obtain rfl : A = [] := List.eq_nil_of_length_eq_zero hn
    exact ⟨none, 0, rfl, Mr.start _⟩
  · refine ⟨_, cap, rfl, rfl, nc, cm, .inr ⟨g, 0, rfl, lg, fun j hj => ?_⟩⟩
    rw [Nat.zero_add]
    exact h.cell j hj
/-- The cells of one. -/
theorem Mr.cells (h : Mr w a n cap A) {j : Nat} (hj : j < n) : ∃ g off, a = some ⟨g, off, none⟩ ∧ w.cell? ⟨g, off + j * 3, none⟩ = some (.int .i64 (A.getD j default).id) ∧ w.cell? ⟨g, off + j * 3 + 1, none⟩ = some (.int .i64 (A.getD j default).e) ∧ w.cell? ⟨g, off + j * 3 + 2, none⟩ = some (.int .i64 (A.getD j default).p) := by
  rcases h.at_ with ⟨_, e⟩ | ⟨g, off, e, hl, hc⟩
  · have := h.nc; omega
  · have c := fun o (ho : o < 3) => hc (j * 3 + o) (by omega)
    have d : ∀ o, o < 3 → dc A (j * 3 + o) = cellD (A.getD j default) o := fun o ho => by unfold dc; rw [show (j * 3 + o) / 3 = j by omega, show (j * 3 + o) % 3 = o by omega]
    refine ⟨g, off, e, ?_, ?_, ?_⟩
    · have := c 0 (by omega); rwa [d 0 (by omega)] at this
    · have := c 1 (by omega); rw [d 1 (by omega)] at this; rw [Nat.add_assoc]; exact this
    · have := c 2 (by omega); rw [d 2 (by omega)] at this; rw [Nat.add_assoc]; exact this
end
/-! ### the row built anew: m[:k], d, m[k:] -/
/-- A row so far; nothing of W has turned. -/
structure Bd (W : World) (A : List Wt) (v : Value) (X : World) : Prop where
  row : Row X W.heap.size 30 3 v A.length (dc A)
  gr : Gr W X
theorem Bd.next {W X X1 : World} {A : List Wt} {v : Value} (h : Bd W A v X) (g : Gr X X1) : Bd W A v X1 := ⟨h.row.keep (fun k hk => g.block k (h.row.lt hk).2 (fun q => q)), h.gr.gr g⟩
theorem bd_of {W X X1 : World} {A : List Wt} {v v' : Value} {B : List Wt} (g : Gr W X) (r : Row X W.heap.size 30 3 v B.length (dc B)) (h : ApP X W.heap.size v A v' X1) : Bd W A v' X1 :=
  ⟨h.row, Ke.over g ((Ke.refl (fun j => v.ownBlock = some j) X).grown h.gr (fun k e => .inl e)) (fun j q => (r.lt q).1)⟩
/-- The first append: onto a new, empty row; other new blocks stay. -/
structure B1 (W X : World) (b : Nat) (A : List Wt) (v : Value) (X1 : World) : Prop where
  bd : Bd W A v X1
  ke : Ke (fun j => j = b) X X1
theorem B1.blk {W X : World} {b : Nat} {A : List Wt} {v : Value} {X1 : World} (h : B1 W X b A v X1) (j : Nat) (hj : j < X.heap.size) (hn : j ≠ b) : X1.heap[j]? = X.heap[j]? := h.ke.block j hj hn
theorem heap_a (W : World) (o : Obj) : (W.alloc o).drew.heap[W.heap.size]? = some o := heap_alloc_new W o
theorem heap_b (W : World) (o o2 : Obj) : ((W.alloc o).alloc o2).drew.heap[W.heap.size]? = some o := (Below.heap_alloc (W.alloc o) o2 W.heap.size (by simp)).trans (heap_alloc_new W o)
theorem heap_c (W : World) (o2 o : Obj) : ((W.alloc o2).alloc o).drew.heap[W.heap.size + 1]? = some o := by
  have := heap_alloc_new (W.alloc o2) o
  rw [show (W.alloc o2).heap.size = W.heap.size + 1 by simp] at this
  exact this
theorem ap1 {W : World} {a : Option Addr} {n cap : Nat} {A : List Wt} (m : Mr W a n cap A) (k : Nat) (hk : k ≤ n) (hn : n ≤ 1000) (X : World) (gX : Gr W X) (b : Nat) (hb : W.heap.size ≤ b) (hX : X.heap[b]? = some (.cells #[] 30 (0, 0))) :
    ∃ v1 X1, (∀ ty, (Builtin.append_ #[26, 26] ty #[.slice (some ⟨b, 0, none⟩) 0 0, .slice a k cap]).run Try.prog X = .ok v1 X1) ∧ B1 W X b (A.take k) v1 X1 := by
  have hA := m.len
  have r0 : Row X W.heap.size 30 3 (.slice (some ⟨b, 0, none⟩) 0 0) ([] : List Wt).length (dc []) := ⟨rfl, .inr ⟨b, 0, #[], rfl, hb, hX, Nat.le_refl _, by unfold maxLen; omega, rfl, rfl⟩⟩
  have fin : ∀ v1 X1, ApP X W.heap.size (.slice (some ⟨b, 0, none⟩) 0 0) (A.take k) v1 X1 → B1 W X b (A.take k) v1 X1 := fun v1 X1 h => ⟨bd_of gX r0 h, (Ke.refl _ X).grown h.gr (fun j e => by
    have : b = j := by simpa [Value.ownBlock] using e
    exact .inl this.symm)⟩
  rcases m.at_ with ⟨rfl, e⟩ | ⟨g, off, rfl, hl, hc⟩
  · have hn0 := m.nc
    obtain rfl : cap = 0 := e
    obtain rfl : k = 0 := by omega
    obtain ⟨v1, X1, hr, h1⟩ := app_wt_none X W.heap.size _ [] r0
    exact ⟨v1, X1, hr, fin v1 X1 (by simpa using h1)⟩
  · obtain ⟨v1, X1, hr, h1⟩ := app_wt X W.heap.size _ [] (A.take k) r0 (Nat.le_trans hb (Nat.le_of_lt (Array.getElem?_eq_some_iff.1 hX).1)) (by simp; omega) ⟨g, off, none⟩ k cap (by simp; omega) (fun j hj => by
      have e : (⟨g, off, none⟩ : Addr).add j = ⟨g, off + j, none⟩ := by unfold Addr.add; split <;> simp_all
      rw [e]
      refine (kcell gX (hc j (by omega))).trans ?_
      unfold dc
      rw [List.getD_eq_getElem?_getD, List.getD_eq_getElem?_getD, List.getElem?_take_of_lt (by omega)])
    exact ⟨v1, X1, hr, fin v1 X1 (by simpa using h1)⟩
theorem ap2 {W X : World} {A : List Wt} {v : Value} (h : Bd W A v X) (hA : A.length ≤ 1000) (d : Wt) (b : Nat) (hX : X.heap[b]? = some (.cells #[.int .i64 d.id, .int .i64 d.e, .int .i64 d.p] 30 (0, 0))) :
    ∃ v1 X1, (∀ ty, (Builtin.append_ #[26, 26] ty #[v, .slice (some ⟨b, 0, none⟩) 1 1]).run Try.prog X = .ok v1 X1) ∧ Bd W (A ++ [d]) v1 X1 := by
  obtain ⟨v1, X1, hr, h1⟩ := app_wt X W.heap.size v A [d] h.row h.gr.size (by simp; omega) ⟨b, 0, none⟩ 1 1 rfl (fun j hj => by
    have e : (⟨b, 0, none⟩ : Addr).add j = ⟨b, j, none⟩ := by unfold Addr.add; split <;> simp_all
    rw [e, cell_of_row _ _ _ _ _ _ hX]
    rcases (show j = 0 ∨ j = 1 ∨ j = 2 by omega) with rfl | rfl | rfl <;> rfl)
  exact ⟨v1, X1, hr, bd_of h.gr h.row h1⟩
/-- m[k:], as a value. -/
def HiV (a : Option Addr) (n k : Nat) (v : Value) : Prop := (v = .slice none 0 0 ∧ n = k) ∨ ∃ g off A2 c2, a = some ⟨g, off, none⟩ ∧ v = .slice (some A2) (n - k) c2 ∧ ∀ j, j < (n - k) * 3 → A2.add j = ⟨g, off + k * 3 + j, none⟩
theorem ap3 {W X : World} {a : Option Addr} {n cap : Nat} {A : List Wt} (m : Mr W a n cap A) (k : Nat) (hk : k ≤ n) (hn : n ≤ 1000) {v : Value} {C : List Wt} (h : Bd W C v X) (hC : C.length ≤ 1001) (vh : Value) (hv : HiV a n k vh) :
    ∃ v1 X1, (∀ ty, (Builtin.append_ #[26, 26] ty #[v, vh]).run Try.prog X = .ok v1 X1) ∧ Bd W (C ++ A.drop k) v1 X1 := by
  have hA := m.len
  rcases hv with ⟨rfl, rfl⟩ | ⟨g, off, A2, c2, ha, rfl, h2⟩
  · obtain ⟨v1, X1, hr, h1⟩ := app_wt_none X W.heap.size v C h.row
    refine ⟨v1, X1, hr, bd_of h.gr h.row ?_⟩
    rw [List.drop_eq_nil_of_le (by omega), List.append_nil]
    exact h1
  · obtain ⟨v1, X1, hr, h1⟩ := app_wt X W.heap.size v C (A.drop k) h.row h.gr.size (by simp; omega) A2 (n - k) c2 (by simp; omega) (fun j hj => by
      rcases m.at_ with ⟨e, _⟩ | ⟨g', off', e, hl, hc⟩
      · rw [e] at ha; cases ha
      · rw [e] at ha
        cases ha
        rw [h2 j hj, Nat.add_assoc]
        refine (kcell h.gr (hc (k * 3 + j) (by omega))).trans ?_
        unfold dc
        rw [List.getD_eq_getElem?_getD, List.getD_eq_getElem?_getD, List.getElem?_drop, show (k * 3 + j) / 3 = k + j / 3 by omega, show (k * 3 + j) % 3 = j % 3 by omega])
    exact ⟨v1, X1, hr, bd_of h.gr h.row h1⟩
section
variable {ops : Array Oper} {o : Oper} {a : Act} {w : World} {K : Act → World → Prop} {Q : Exit → Act → World → Prop} {Y : Prop}
theorem step1 (hg : o.guard = none) (s x : Operand) (hop : o.op = Op.call { callee := Callee.builtin Builtin.append, args := #[s, x], argTypes := #[26, 26] }) {W : World} {aa : Option Addr} {n cap : Nat} {A : List Wt} (m : Mr W aa n cap A) (k b : Nat)
    (hs : a.eval s = .slice (some ⟨b, 0, none⟩) 0 0) (hx : a.eval x = .slice aa k cap) (hk : k ≤ n) (hn : n ≤ 1000) (gX : Gr W w) (hb : W.heap.size ≤ b) (hX : w.heap[b]? = some (.cells #[] 30 (0, 0))) (hK : ∀ v' w', B1 W w b (A.take k) v' w' → K (a.put o.dst v') w') :
    if Region.wanted o (yielded ops a.tmps) = true then Oper.wp Try.prog o a w K Q else Y := by
  obtain ⟨v', w', h1, h2⟩ := ap1 m k hk hn w gX b hb hX
  exact step_append_run hg s x 26 hop _ _ hs hx v' w' h1 (hK v' w' h2)
theorem step2 (hg : o.guard = none) (s x : Operand) (hop : o.op = Op.call { callee := Callee.builtin Builtin.append, args := #[s, x], argTypes := #[26, 26] }) {W : World} {A : List Wt} {v : Value} (h : Bd W A v w) (d : Wt) (b : Nat)
    (hs : a.eval s = v) (hx : a.eval x = .slice (some ⟨b, 0, none⟩) 1 1) (hA : A.length ≤ 1000) (hX : w.heap[b]? = some (.cells #[.int .i64 d.id, .int .i64 d.e, .int .i64 d.p] 30 (0, 0))) (hK : ∀ v' w', Bd W (A ++ [d]) v' w' → K (a.put o.dst v') w') :
    if Region.wanted o (yielded ops a.tmps) = true then Oper.wp Try.prog o a w K Q else Y := by
  obtain ⟨v', w', h1, h2⟩ := ap2 h hA d b hX
  exact step_append_run hg s x 26 hop _ _ hs hx v' w' h1 (hK v' w' h2)
theorem step3 (hg : o.guard = none) (s x : Operand) (hop : o.op = Op.call { callee := Callee.builtin Builtin.append, args := #[s, x], argTypes := #[26, 26] }) {W : World} {aa : Option Addr} {n cap : Nat} {A : List Wt} (m : Mr W aa n cap A) (k : Nat) {C : List Wt} {v : Value} (h : Bd W C v w) (vh : Value)
    (hs : a.eval s = v) (hx : a.eval x = vh) (hk : k ≤ n) (hn : n ≤ 1000) (hC : C.length ≤ 1001) (hv : HiV aa n k vh) (hK : ∀ v' w', Bd W (C ++ A.drop k) v' w' → K (a.put o.dst v') w') :
    if Region.wanted o (yielded ops a.tmps) = true then Oper.wp Try.prog o a w K Q else Y := by
  obtain ⟨v', w', h1, h2⟩ := ap3 m k hk hn h hC vh hv
  exact step_append_run hg s x 26 hop _ _ hs hx v' w' h1 (hK v' w' h2)
end
/-- Where the rest of a slice begins. -/
theorem slice_at (g off cap k n : Nat) (hk : k ≤ n) (hn : n ≤ cap) : ∃ A2 : Addr, (if cap = k then some (⟨g, off, none⟩ : Addr) else some ⟨g, off + k * 3, none⟩) = some A2 ∧ ∀ j, j < (n - k) * 3 → A2.add j = ⟨g, off + k * 3 + j, none⟩ := by
  by_cases e : cap = k
  · refine ⟨⟨g, off, none⟩, by simp [e], fun t ht => ?_⟩
    have : n - k = 0 := by omega
    rw [this] at ht; omega
  · refine ⟨⟨g, off + k * 3, none⟩, by simp [e], fun t ht => ?_⟩
    unfold Addr.add; split <;> simp_all
end Go.Proofs.Ytbimaaknjedonaa
