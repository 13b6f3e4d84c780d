/- The law HeapPlays: its plain half; the row of deeds in memory. -/
import Derived.Test.YtfbgjlfepnbcgaaX6
import Derived.Test.YtfbgjlfepnbcgaaU6
import Derived.Test.YtfbgjlfepnbcgaaP6
namespace Go.Proofs.Ytfbgjlfepnbcgaa
open Go.RowKit Go.Lib
set_option linter.unusedVariables false

/-! ### plain -/
/-- The row E of n entries is what is in M, each slot once. -/
structure Hs (E : Nat → En) (n : Nat) (M : Nat → Option Rk) : Prop where
  has : Has E n M
  inj : ∀ i, i < n → ∀ j, j < n → (E i).s = (E j).s → i = j
theorem Hs.start (E : Nat → En) : Hs E 0 (fun _ => none) := ⟨fun s r => by simp, fun i hi => by omega⟩
theorem Hs.put {E : Nat → En} {n : Nat} {M : Nat → Option Rk} (h : Hs E n M) {i : Nat} (hi : i < n) (r : Rk) : Hs (upd E i ⟨(E i).s, r⟩) n (upd M (E i).s (some r)) := by
  have es : ∀ j, (upd E i ⟨(E i).s, r⟩ j).s = (E j).s := fun j => by
    by_cases q : j = i
    · subst q; rw [upd_same]
    · rw [upd_other _ _ q]
  refine ⟨fun t q => ?_, fun a ha b hb e => h.inj a ha b hb (by rwa [es, es] at e)⟩
  by_cases e : t = (E i).s
  · subst e
    rw [upd_same]
    constructor
    · intro a; obtain rfl := Option.some.inj a; exact ⟨i, hi, upd_same _ _ _⟩
    · rintro ⟨j, hj, a⟩
      by_cases e : j = i
      · subst e; rw [upd_same] at a; cases a; rfl
      · rw [upd_other _ _ e] at a
        exact absurd (h.inj j hj i hi (by rw [a])) e
  · rw [upd_other _ _ e, h.has t q]
    constructor
    · rintro ⟨j, hj, a⟩
      exact ⟨j, hj, by rw [upd_other _ _ (fun e2 => e (by rw [← e2, a]))]; exact a⟩
    · rintro ⟨j, hj, a⟩
      by_cases e2 : j = i
      · subst e2; rw [upd_same] at a; cases a; exact absurd rfl e
      · rw [upd_other _ _ e2] at a; exact ⟨j, hj, a⟩
theorem Hs.new {E : Nat → En} {n : Nat} {M : Nat → Option Rk} (h : Hs E n M) {s : Nat} (hs : M s = none) (r : Rk) : Hs (upd E n ⟨s, r⟩) (n + 1) (upd M s (some r)) := by
  have ho := h.has.none.1 hs
  refine ⟨h.has.new hs r, fun a ha b hb e => ?_⟩
  by_cases q1 : a = n <;> by_cases q2 : b = n
  · omega
  · rw [q1, upd_same, upd_other _ _ q2] at e; exact absurd e.symm (ho b (by omega))
  · rw [q2, upd_same, upd_other _ _ q1] at e; exact absurd e (ho a (by omega))
  · rw [upd_other _ _ q1, upd_other _ _ q2] at e; exact h.inj a (by omega) b (by omega) e
/-- Without the c-th. -/
def cut {α : Type} (E : Nat → α) (c : Nat) : Nat → α := fun i => if i < c then E i else E (i + 1)
theorem Hs.cut {E : Nat → En} {n : Nat} {M : Nat → Option Rk} (h : Hs E (n + 1) M) {c : Nat} (hc : c < n + 1) : Hs (cut E c) n (upd M (E c).s none) := by
  have key : ∀ j, j < n → ∃ m, m < n + 1 ∧ m ≠ c ∧ Ytfbgjlfepnbcgaa.cut E c j = E m ∧ (j < c → m = j) ∧ (¬ j < c → m = j + 1) := fun j hj => by
    by_cases q : j < c
    · exact ⟨j, by omega, by omega, by simp [Ytfbgjlfepnbcgaa.cut, q], fun _ => rfl, fun e => absurd q e⟩
    · exact ⟨j + 1, by omega, by omega, by simp [Ytfbgjlfepnbcgaa.cut, q], fun e => absurd e q, fun _ => rfl⟩
  refine ⟨fun t q => ?_, fun a ha b hb e => ?_⟩
  · by_cases e : t = (E c).s
    · subst e
      rw [upd_same]
      constructor
      · intro a; cases a
      · rintro ⟨j, hj, a⟩
        obtain ⟨m, hm, hmc, em, _⟩ := key j hj
        rw [em] at a
        exact absurd (h.inj m hm c hc (by rw [a])) hmc
    · rw [upd_other _ _ e, h.has t q]
      constructor
      · rintro ⟨j, hj, a⟩
        have hjc : j ≠ c := fun e2 => e (by rw [← e2, a])
        by_cases q : j < c
        · exact ⟨j, by omega, by simp [Ytfbgjlfepnbcgaa.cut, q, a]⟩
        · refine ⟨j - 1, by omega, ?_⟩
          have : ¬ j - 1 < c := by omega
          simp only [Ytfbgjlfepnbcgaa.cut, this, if_false]
          rw [show j - 1 + 1 = j by omega]; exact a
      · rintro ⟨j, hj, a⟩
        obtain ⟨m, hm, hmc, em, _⟩ := key j hj
        rw [em] at a
        exact ⟨m, hm, a⟩
  · obtain ⟨m, hm, hmc, em, x1, x2⟩ := key a ha
    obtain ⟨m', hm', hmc', em', y1, y2⟩ := key b hb
    rw [em, em'] at e
    have := h.inj m hm m' hm' e
    by_cases p1 : a < c <;> by_cases p2 : b < c
    · have := x1 p1; have := y1 p2; omega
    · have := x1 p1; have := y2 p2; omega
    · have := x2 p1; have := y1 p2; omega
    · have := x2 p1; have := y2 p2; omega

/-- Where a slot stands among the first j; -1 where it does not. -/
def AtTo (E : Nat → En) (d : Int) (j : Nat) (a : Int) : Prop := (a = -1 ∧ ∀ i, i < j → ((E i).s : Int) ≠ d) ∨ ∃ c : Nat, a = c ∧ c < j ∧ ((E c).s : Int) = d
theorem AtTo.start (E : Nat → En) (d : Int) : AtTo E d 0 (-1) := .inl ⟨rfl, fun i hi => by omega⟩
theorem AtTo.hit {E : Nat → En} {d : Int} {j : Nat} (h : ((E j).s : Int) = d) : AtTo E d (j + 1) (j : Int) := .inr ⟨j, rfl, by omega, h⟩
theorem AtTo.miss {E : Nat → En} {d : Int} {j : Nat} {a : Int} (h : AtTo E d j a) (hne : ((E j).s : Int) ≠ d) : AtTo E d (j + 1) a := by
  rcases h with ⟨rfl, h⟩ | ⟨c, rfl, hc, h⟩
  · refine .inl ⟨rfl, fun i hi => ?_⟩
    by_cases e : i = j
    · rw [e]; exact hne
    · exact h i (by omega)
  · exact .inr ⟨c, rfl, by omega, h⟩
/-- The first of the first j; -1 of none. -/
def BestTo (k : Int) (E : Nat → En) (j : Nat) (b : Int) : Prop := (b = -1 ∧ j = 0) ∨ ∃ c : Nat, b = c ∧ c < j ∧ ∀ i, i < j → ahead k (E i) (E c) = false
theorem BestTo.start (k : Int) (E : Nat → En) : BestTo k E 0 (-1) := .inl ⟨rfl, rfl⟩
theorem BestTo.one (k : Int) (E : Nat → En) : BestTo k E 1 ((0 : Nat) : Int) := .inr ⟨0, rfl, by omega, fun i hi => by
  obtain rfl : i = 0 := by omega
  exact ahead_irrefl k _⟩
theorem BestTo.less {k : Int} {E : Nat → En} {j c : Nat} (hc : c < j) (h : ∀ i, i < j → ahead k (E i) (E c) = false) (ha : ahead k (E j) (E c) = true) : BestTo k E (j + 1) (j : Int) := by
  refine .inr ⟨j, rfl, by omega, fun i hi => ?_⟩
  by_cases e : i = j
  · rw [e]; exact ahead_irrefl k _
  · exact ahead_ntrans k _ _ _ (h i (by omega)) (ahead_asymm k _ _ ha)
theorem BestTo.more {k : Int} {E : Nat → En} {j c : Nat} (hc : c < j) (h : ∀ i, i < j → ahead k (E i) (E c) = false) (ha : ahead k (E j) (E c) = false) : BestTo k E (j + 1) (c : Int) := by
  refine .inr ⟨c, rfl, by omega, fun i hi => ?_⟩
  by_cases e : i = j
  · rw [e]; exact ha
  · exact h i (by omega)
theorem Hs.first {k : Int} {E : Nat → En} {n : Nat} {M : Nat → Option Rk} (h : Hs E n M) {c : Nat} (hc : c < n) (hb : ∀ i, i < n → ahead k (E i) (E c) = false) : First k M (E c).s (E c).r := by
  refine ⟨h.has.at_ hc, fun s' r' h' hne => ?_⟩
  obtain ⟨i, hi, e⟩ := (h.has s' r').1 h'
  have := hb i hi
  rw [e] at this
  exact ahead_total k _ _ hne this

/-! ### in memory -/
def cellD (o : Int) (e : En) (j : Nat) : Value := if j = 0 then .int .i64 o else if j = 1 then .int .i64 e.s else if j = 2 then .int .i64 e.r.d else if j = 3 then .int .i64 e.r.b else if j = 4 then .int .i64 e.r.g else .int .i64 e.r.i
def dc (O : Nat → Int) (E : Nat → En) (j : Nat) : Value := cellD (O (j / 6)) (E (j / 6)) (j % 6)
theorem dc_at (O : Nat → Int) (E : Nat → En) (i o : Nat) (ho : o < 6) : dc O E (i * 6 + o) = cellD (O i) (E i) o := by
  unfold dc; rw [show (i * 6 + o) / 6 = i by omega, show (i * 6 + o) % 6 = o by omega]
theorem dc_put (O : Nat → Int) (E : Nat → En) (c : Nat) (r : Rk) : dc O (upd E c ⟨(E c).s, r⟩) = upd (upd (upd (upd (dc O E) (c * 6 + 2) (.int .i64 r.d)) (c * 6 + 3) (.int .i64 r.b)) (c * 6 + 4) (.int .i64 r.g)) (c * 6 + 5) (.int .i64 r.i) := by
  funext j
  by_cases q : j / 6 = c
  · have : j = c * 6 + j % 6 := by omega
    have h6 : j % 6 < 6 := Nat.mod_lt _ (by omega)
    generalize j % 6 = o at this h6
    subst this
    rw [dc_at _ _ _ _ h6, upd_same]
    rcases (show o = 0 ∨ o = 1 ∨ o = 2 ∨ o = 3 ∨ o = 4 ∨ o = 5 by omega) with rfl | rfl | rfl | rfl | rfl | rfl
    · rw [upd_other _ _ (by omega), upd_other _ _ (by omega), upd_other _ _ (by omega), upd_other _ _ (by omega), dc_at _ _ _ _ h6]; rfl
    · rw [upd_other _ _ (by omega), upd_other _ _ (by omega), upd_other _ _ (by omega), upd_other _ _ (by omega), dc_at _ _ _ _ h6]; rfl
    · rw [upd_other _ _ (by omega), upd_other _ _ (by omega), upd_other _ _ (by omega), upd_same]; rfl
    · rw [upd_other _ _ (by omega), upd_other _ _ (by omega), upd_same]; rfl
    · rw [upd_other _ _ (by omega), upd_same]; rfl
    · rw [upd_same]; rfl
  · rw [upd_other _ _ (by omega), upd_other _ _ (by omega), upd_other _ _ (by omega), upd_other _ _ (by omega)]
    unfold dc
    rw [upd_other _ _ q]

/-- The row of deeds: none of its blocks is one of the heap's. -/
structure Rw (w : World) (base : Nat) (F : Nat → Prop) (mv : Value) (n : Nat) (O : Nat → Int) (E : Nat → En) : Prop where
  row : Row w base 29 6 mv n (dc O E)
  ap : ∀ g, mv.ownBlock = some g → ¬ F g
section
variable {w w' : World} {base : Nat} {F F' : Nat → Prop} {mv : Value} {n : Nat} {O : Nat → Int} {E : Nat → En}
theorem Rw.sv (h : Rw w base F mv n O E) (v : Sv F F' w w') : Rw w' base F' mv n O E := by
  refine ⟨h.row.keep (fun g hg => v.ke.block g (h.row.lt hg).2 (h.ap g hg)), fun g hg q => ?_⟩
  rcases v.ft g q with e | e
  · exact h.ap g hg e
  · have := (h.row.lt hg).2; omega
theorem Rw.gr (h : Rw w base F mv n O E) (g : Gr w w') : Rw w' base F mv n O E := h.sv (Sv.of_gr g)
theorem Row.slice {e : TypeId} {size : Nat} {f : Nat → Value} (h : Row w base e size mv n f) : ∃ ma cap, mv = .slice ma n cap ∧ n ≤ cap ∧ cap ≤ maxLen := by
  rcases h.shape with ⟨rfl, rfl⟩ | ⟨g, cap, rfl, _, _, h1, h2⟩
  · exact ⟨none, 0, rfl, by omega, by unfold maxLen; omega⟩
  · exact ⟨some ⟨g, 0, none⟩, cap, rfl, h1, h2⟩
theorem deed_cells {g cap : Nat} (h : Row w base 29 6 (.slice (some ⟨g, 0, none⟩) n cap) n (dc O E)) (i : Nat) (hi : i < n) :
    w.cell? ⟨g, i * 6, none⟩ = some (.int .i64 (O i)) ∧ w.cell? ⟨g, i * 6 + 1, none⟩ = some (.int .i64 (E i).s) ∧ w.cell? ⟨g, i * 6 + 2, none⟩ = some (.int .i64 (E i).r.d) ∧ w.cell? ⟨g, i * 6 + 3, none⟩ = some (.int .i64 (E i).r.b) ∧ w.cell? ⟨g, i * 6 + 4, none⟩ = some (.int .i64 (E i).r.g) ∧ w.cell? ⟨g, i * 6 + 5, none⟩ = some (.int .i64 (E i).r.i) := by
  have c := fun o (ho : o < 6) => (h.cell (i * 6 + o) (by omega)).trans (congrArg some (dc_at O E i o ho))
  exact ⟨c 0 (by omega), c 1 (by omega), c 2 (by omega), c 3 (by omega), c 4 (by omega), c 5 (by omega)⟩
/-- The rank of one deed turned. -/
theorem Rw.put {g cap : Nat} (h : Rw w base F (.slice (some ⟨g, 0, none⟩) n cap) n O E) (c : Nat) (r : Rk) :
    Rw ((((w.setCell ⟨g, c * 6 + 2, none⟩ (.int .i64 r.d)).setCell ⟨g, c * 6 + 3, none⟩ (.int .i64 r.b)).setCell ⟨g, c * 6 + 4, none⟩ (.int .i64 r.g)).setCell ⟨g, c * 6 + 5, none⟩ (.int .i64 r.i)) base F (.slice (some ⟨g, 0, none⟩) n cap) n O (upd E c ⟨(E c).s, r⟩) :=
  ⟨by rw [dc_put]; exact (((h.row.set _ _).set _ _).set _ _).set _ _, h.ap⟩
theorem Rw.congr {O' : Nat → Int} {E' : Nat → En} (h : Rw w base F mv n O E) (h1 : ∀ i, i < n → O' i = O i) (h2 : ∀ i, i < n → E' i = E i) : Rw w base F mv n O' E' :=
  ⟨h.row.congr (fun j hj => by unfold dc; rw [h1 _ (by omega), h2 _ (by omega)]), h.ap⟩
end
/-- The heap beside blocks of others that were turned. -/
theorem Hl.other {w0 w w' : World} {p : Nat} {k : Int} {F G : Nat → Prop} {n : Nat} {M : Nat → Option Rk} (h : Hl w0 w p k F n M) (q : Ke G w w') (h1 : ∀ j, F j → ¬ G j) (h2 : ∀ j, G j → w0.heap.size ≤ j) : Hl w0 w' p k F n M :=
  ⟨h.st.ke q h1, h.below.trans (q.below h.below.size (fun j hj x => by have := h2 j x; omega))⟩

theorem info29 : ∃ i, Try.prog.info? 29 = some i ∧ i.size = 6 ∧ i.bytes = 48 ∧ i.zero = some (.agg #[.int .i64 0, .int .i64 0, .int .i64 0, .int .i64 0, .int .i64 0, .int .i64 0]) := by
  have h1 : (Try.prog.info? 29).map (·.size) = some 6 := by kernel_rfl
  have h2 : (Try.prog.info? 29).map (·.bytes) = some 48 := by kernel_rfl
  have h3 : (Try.prog.info? 29).map (·.zero) = some (some (.agg #[.int .i64 0, .int .i64 0, .int .i64 0, .int .i64 0, .int .i64 0, .int .i64 0])) := by kernel_rfl
  cases h : Try.prog.info? 29 with
  | none => rw [h] at h1; cases h1
  | some i =>
    rw [h] at h1 h2 h3
    exact ⟨i, rfl, by simpa using h1, by simpa using h2, by simpa using h3⟩

/-- append onto a row of the call's own, also of nothing: where it lies. -/
theorem append_own_any {P : Program} (w : World) (base : Nat) (t ty e : TypeId) (i : TypeInfo) (z : Value) (size bytes : Nat) (ht : P.underlying t = some (.slice e)) (hi : P.info? e = some i) (hz : i.zero = some z)
    (hsize : i.size = size) (hby : i.bytes = bytes) (hzs : z.cells.size = size) (hsz : 0 < size)
    (v : Value) (n : Nat) (xs : List Value) (hown : w.ownsRow base e size v n xs)
    (a : Addr) (m c : Nat) (news : List Value) (hl : news.length = m * size) (hnews : ∀ j u, news[j]? = some u → w.cell? (a.add j) = some u) (h1 : ∀ u ∈ news, u.oneCell' = true)
    (h63 : n + m ≤ maxLen) (hbytes : (n + m) * bytes ≤ 140737488355328) (hbase : base ≤ w.heap.size) :
    ∃ v' w', (Builtin.append_ #[t, t] ty #[v, .slice (some a) m c]).run P w = .ok v' w' ∧ w'.ownsRow base e size v' (n + m) (xs ++ news) ∧ w.grownBy w' v.ownBlock ∧ (v'.ownBlock = v.ownBlock ∨ v'.ownBlock = some w.heap.size) := by
  rcases Nat.eq_zero_or_pos m with h0 | h0
  · subst h0
    obtain ⟨v', w', hr, h2, h3, h4⟩ := run_append_own (P := P) w base t ty e i z size bytes ht hi hz hsize hby hzs hsz v n xs hown a 0 c news hl hnews h1 h63 hbytes hbase
    refine ⟨v', w', hr, h2, h3, .inl ?_⟩
    subst hsize
    rcases hown.2 with ⟨rfl, rfl⟩ | ⟨g, cap, cur, rfl, hbg, hg, hnc, hcm, hcs, htake⟩
    · rw [h4.2 ⟨rfl, rfl⟩]
    · have hr2 := run_append_room (P := P) w t ty e i ht hi g n cap cur hg a 0 c news hl hnews h1 (by omega) (by rw [hl, hcs]; simp; exact Nat.mul_le_mul_right _ hnc)
      rw [hr] at hr2
      cases hr2
      rfl
  · exact append_own_at w base t ty e i z size bytes ht hi hz hsize hby hzs hsz v n xs hown a m c news h0 hl hnews h1 h63 hbytes hbase

theorem dc_one (O : Nat → Int) (E : Nat → En) (j : Nat) : (dc O E j).oneCell' = true := by
  unfold dc cellD
  split
  · rfl
  · split
    · rfl
    · split
      · rfl
      · split
        · rfl
        · split <;> rfl

/-- Elements of the row E2 appended, as a row again. -/
theorem rw_append (w : World) (base : Nat) (v : Value) (n : Nat) (O : Nat → Int) (E : Nat → En) (h : Row w base 29 6 v n (dc O E)) (a : Addr) (m c : Nat) (O2 : Nat → Int) (E2 : Nat → En) (hc : ∀ j, j < m * 6 → w.cell? (a.add j) = some (dc O2 E2 j)) (hm : n + m ≤ 1000) (hb : base ≤ w.heap.size) :
    ∃ v' w', (∀ ty, (Builtin.append_ #[22, 22] ty #[v, .slice (some a) m c]).run Try.prog w = .ok v' w') ∧ Row w' base 29 6 v' (n + m) (dc (fun i => if i < n then O i else O2 (i - n)) (fun i => if i < n then E i else E2 (i - n))) ∧ w.grownBy w' v.ownBlock ∧ (v'.ownBlock = v.ownBlock ∨ v'.ownBlock = some w.heap.size) := by
  obtain ⟨i, hi, h1, h2, h3⟩ := info29
  obtain ⟨v', w', hr, ho, hg, ha⟩ := append_own_any (P := Try.prog) w base 22 0 29 i _ 6 48 Try.underlying22 hi h3 h1 h2 rfl (by omega) v n _ h a m c ((List.range (m * 6)).map (dc O2 E2)) (by simp) (fun j u hj => by
      rw [List.getElem?_map] at hj
      rcases Nat.lt_or_ge j (m * 6) with q | q
      · rw [List.getElem?_range q] at hj
        rw [hc j q]
        simpa using hj
      · rw [List.getElem?_eq_none (by simpa using q)] at hj
        cases hj) (fun u hu => by
      obtain ⟨j, _, rfl⟩ := List.mem_map.1 hu
      exact dc_one O2 E2 j) (by unfold maxLen; omega) (by omega) hb
  refine ⟨v', w', fun ty => hr, ?_, hg, ha⟩
  unfold Row
  rw [show (List.range ((n + m) * 6)).map (dc (fun i => if i < n then O i else O2 (i - n)) (fun i => if i < n then E i else E2 (i - n))) = (List.range (n * 6)).map (dc O E) ++ (List.range (m * 6)).map (dc O2 E2) from ?_]
  · exact ho
  · refine List.ext_getElem (by simp; omega) fun j a b => ?_
    simp only [List.getElem_map, List.getElem_range, List.getElem_append, List.length_map, List.length_range]
    split
    · rename_i q
      unfold dc
      dsimp only
      rw [if_pos (by omega), if_pos (by omega)]
    · rename_i q
      unfold dc
      dsimp only
      rw [if_neg (by omega), if_neg (by omega)]
      rw [show (j - n * 6) / 6 = j / 6 - n by omega, show (j - n * 6) % 6 = j % 6 by omega]
end Go.Proofs.Ytfbgjlfepnbcgaa
