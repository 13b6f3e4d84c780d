/- The heap in memory: rows that the call owns, the heap's three blocks; contract of set. -/
import Derived.Test.YtkapejgokcpbiaaC6
namespace Go.Proofs.Ytkapejgokcpbiaa
open Go.RowKit Go.Lib
set_option linter.unusedVariables false

/-- A row of the call's own, its cells by their number. -/
def Row (w : World) (base : Nat) (e : TypeId) (size : Nat) (v : Value) (n : Nat) (f : Nat → Value) : Prop := w.ownsRow base e size v n ((List.range (n * size)).map f)
section
variable {w w' : World} {base : Nat} {e : TypeId} {size : Nat} {v : Value} {n : Nat} {f f' : Nat → Value}
theorem Row.congr (h : Row w base e size v n f) (q : ∀ j, j < n * size → f' j = f j) : Row w base e size v n f' := by
  unfold Row
  rw [show (List.range (n * size)).map f' = (List.range (n * size)).map f from List.map_congr_left (fun j hj => q j (List.mem_range.1 hj))]
  exact h
theorem Row.keep (h : Row w base e size v n f) (q : ∀ g, v.ownBlock = some g → w'.heap[g]? = w.heap[g]?) : Row w' base e size v n f := by
  refine ⟨h.1, ?_⟩
  rcases h.2 with hn | ⟨g, cap, cur, rfl, hb, hgg, rest⟩
  · exact .inl hn
  · exact .inr ⟨g, cap, cur, rfl, hb, (q g rfl).trans hgg, rest⟩
theorem Row.form (h : Row w base e size v n f) (hn : 0 < n) : ∃ g cap, v = .slice (some ⟨g, 0, none⟩) n cap ∧ base ≤ g ∧ g < w.heap.size ∧ n ≤ cap ∧ cap ≤ maxLen := by
  rcases h.2 with ⟨_, q⟩ | ⟨g, cap, cur, rfl, hb, hgg, h1, h2, _⟩
  · omega
  · exact ⟨g, cap, rfl, hb, (Array.getElem?_eq_some_iff.1 hgg).1, h1, h2⟩
/-- Nil, or a block with some room. -/
theorem Row.shape (h : Row w base e size v n f) : (v = .slice none 0 0 ∧ n = 0) ∨ ∃ g cap, v = .slice (some ⟨g, 0, none⟩) n cap ∧ base ≤ g ∧ g < w.heap.size ∧ n ≤ cap ∧ cap ≤ maxLen := by
  rcases h.2 with q | ⟨g, cap, cur, rfl, hb, hgg, h1, h2, _⟩
  · exact .inl q
  · exact .inr ⟨g, cap, rfl, hb, (Array.getElem?_eq_some_iff.1 hgg).1, h1, h2⟩
theorem Row.cell {g cap : Nat} (h : Row w base e size (.slice (some ⟨g, 0, none⟩) n cap) n f) (j : Nat) (hj : j < n * size) : w.cell? ⟨g, j, none⟩ = some (f j) := by
  rw [World.ownsRow.cellAt h j hj]; simp [hj]
theorem Row.frozen {g cap : Nat} (h : Row w base e size (.slice (some ⟨g, 0, none⟩) n cap) n f) (j : Nat) : w.frozen? ⟨g, j, none⟩ = false := World.ownsRow.frozenAt h j
theorem Row.set {g cap : Nat} (h : Row w base e size (.slice (some ⟨g, 0, none⟩) n cap) n f) (j : Nat) (u : Value) : Row (w.setCell ⟨g, j, none⟩ u) base e size (.slice (some ⟨g, 0, none⟩) n cap) n (upd f j u) := by
  have := (World.ownsRow.stored h j u).1
  unfold Row
  rw [show (List.range (n * size)).map (upd f j u) = ((List.range (n * size)).map f).set j u from ?_]
  · exact this
  · refine List.ext_getElem (by simp) fun i h1 h2 => ?_
    simp only [List.getElem_map, List.getElem_range, List.getElem_set]
    unfold upd
    by_cases q : i = j
    · subst q; simp
    · simp [q, Ne.symm q]
theorem Row.lt (h : Row w base e size v n f) {g : Nat} (hg : v.ownBlock = some g) : base ≤ g ∧ g < w.heap.size := World.ownsRow.lt h g hg
end

/-- The o-th cell of an entry. -/
def cellE (e : En) (o : Nat) : Value := if o = 0 then .int .i64 e.s else if o = 1 then .int .i64 e.r.d else if o = 2 then .int .i64 e.r.b else if o = 3 then .int .i64 e.r.g else .int .i64 e.r.i
/-- The cells of a tree, of the spots. -/
def ec (T : Nat → En) (j : Nat) : Value := cellE (T (j / 5)) (j % 5)
def sc (S : Nat → Nat) (j : Nat) : Value := .int .i32 (S j : Nat)

theorem ec_set (T : Nat → En) (i : Nat) (e : En) : ec (upd T i e) = upd (upd (upd (upd (upd (ec T) (i * 5) (.int .i64 e.s)) (i * 5 + 1) (.int .i64 e.r.d)) (i * 5 + 2) (.int .i64 e.r.b)) (i * 5 + 3) (.int .i64 e.r.g)) (i * 5 + 4) (.int .i64 e.r.i) := by
  funext j
  unfold ec
  by_cases q : j / 5 = i
  · rw [q, upd_same]
    have : j = i * 5 + j % 5 := by omega
    have h5 : j % 5 < 5 := Nat.mod_lt _ (by omega)
    generalize j % 5 = o at this h5
    subst this
    unfold upd cellE
    rcases (show o = 0 ∨ o = 1 ∨ o = 2 ∨ o = 3 ∨ o = 4 by omega) with rfl | rfl | rfl | rfl | rfl <;> simp
  · rw [upd_other _ _ q, upd_other _ _ (by omega), upd_other _ _ (by omega), upd_other _ _ (by omega), upd_other _ _ (by omega), upd_other _ _ (by omega)]
theorem sc_set (S : Nat → Nat) (i x : Nat) : sc (upd S i x) = upd (sc S) i (.int .i32 (x : Nat)) := by
  funext j
  unfold sc upd
  split <;> rfl

/-- The blocks of a heap. -/
def Foot (p : Nat) (v u : Value) (k : Nat) : Prop := k = p ∨ v.ownBlock = some k ∨ u.ownBlock = some k

/-- The heap at block p: its kind k, its tree v with the entries T, its spots u with the numbers S. -/
structure Mem (w : World) (base p : Nat) (k : Int) (v u : Value) (n : Nat) (T : Nat → En) (L : Nat) (S : Nat → Nat) : Prop where
  bp : base ≤ p
  n6 : n ≤ 65536
  l6 : L ≤ 65536
  c0 : w.cell? ⟨p, 0, none⟩ = some (.int .i64 k)
  c1 : w.cell? ⟨p, 1, none⟩ = some v
  c2 : w.cell? ⟨p, 2, none⟩ = some u
  fz : ∀ o, w.frozen? ⟨p, o, none⟩ = false
  tr : Row w base 85 5 v n (ec T)
  sp : Row w base 21 1 u L (sc S)
  pv : v.ownBlock ≠ some p
  pu : u.ownBlock ≠ some p
  vu : ∀ g, v.ownBlock = some g → u.ownBlock ≠ some g
section
variable {w w' : World} {base p : Nat} {k : Int} {v u : Value} {n : Nat} {T : Nat → En} {L : Nat} {S : Nat → Nat}
theorem Mem.pl (h : Mem w base p k v u n T L S) : p < w.heap.size := lt_of_cell h.c0
theorem Mem.keep (h : Mem w base p k v u n T L S) (q : ∀ g, Foot p v u g → w'.heap[g]? = w.heap[g]?) : Mem w' base p k v u n T L S :=
  { h with
    c0 := (World.cell?_of_block (q p (.inl rfl))).trans h.c0, c1 := (World.cell?_of_block (q p (.inl rfl))).trans h.c1, c2 := (World.cell?_of_block (q p (.inl rfl))).trans h.c2
    fz := fun o => (World.frozen?_of_block (a := ⟨p, o, none⟩) (q p (.inl rfl))).trans (h.fz o)
    tr := h.tr.keep (fun g hg => q g (.inr (.inl hg))), sp := h.sp.keep (fun g hg => q g (.inr (.inr hg))) }
theorem Mem.lt (h : Mem w base p k v u n T L S) {g : Nat} (hg : Foot p v u g) : base ≤ g ∧ g < w.heap.size := by
  rcases hg with rfl | hg | hg
  · exact ⟨h.bp, h.pl⟩
  · exact h.tr.lt hg
  · exact h.sp.lt hg
theorem Mem.ke {F : Nat → Prop} (h : Mem w base p k v u n T L S) (q : Ke F w w') (hF : ∀ g, Foot p v u g → ¬ F g) : Mem w' base p k v u n T L S := h.keep (fun g hg => q.block g (h.lt hg).2 (hF g hg))
theorem Mem.gr (h : Mem w base p k v u n T L S) (q : Gr w w') : Mem w' base p k v u n T L S := h.ke q (fun _ _ x => x)
theorem Mem.congrT {T' : Nat → En} (h : Mem w base p k v u n T L S) (q : ∀ i, i < n → T' i = T i) : Mem w base p k v u n T' L S :=
  { h with tr := h.tr.congr (fun j hj => by unfold ec; rw [q (j / 5) (by omega)]) }
theorem Mem.congrS {S' : Nat → Nat} (h : Mem w base p k v u n T L S) (q : ∀ i, i < L → S' i = S i) : Mem w base p k v u n T L S' :=
  { h with sp := h.sp.congr (fun j hj => by unfold sc; rw [q j (by omega)]) }
theorem Mem.congrF {S' : Nat → Nat} (h : Mem w base p k v u n T L S) (q : S' = S) : Mem w base p k v u n T L S' := by rw [q]; exact h

/-- The five cells of an entry. -/
theorem tree_cells {g cap : Nat} (h : Row w base 85 5 (.slice (some ⟨g, 0, none⟩) n cap) n (ec T)) (i : Nat) (hi : i < n) :
    w.cell? ⟨g, i * 5, none⟩ = some (.int .i64 (T i).s) ∧ w.cell? ⟨g, i * 5 + 1, none⟩ = some (.int .i64 (T i).r.d) ∧ w.cell? ⟨g, i * 5 + 2, none⟩ = some (.int .i64 (T i).r.b) ∧ w.cell? ⟨g, i * 5 + 3, none⟩ = some (.int .i64 (T i).r.g) ∧ w.cell? ⟨g, i * 5 + 4, none⟩ = some (.int .i64 (T i).r.i) := by
  have c := fun o (ho : o < 5) => h.cell (i * 5 + o) (by omega)
  have e : ∀ o, o < 5 → ec T (i * 5 + o) = cellE (T i) o := fun o ho => by unfold ec; rw [show (i * 5 + o) / 5 = i by omega, show (i * 5 + o) % 5 = o by omega]
  refine ⟨?_, ?_, ?_, ?_, ?_⟩
  · have := c 0 (by omega); rwa [e 0 (by omega)] at this
  · have := c 1 (by omega); rwa [e 1 (by omega)] at this
  · have := c 2 (by omega); rwa [e 2 (by omega)] at this
  · have := c 3 (by omega); rwa [e 3 (by omega)] at this
  · have := c 4 (by omega); rwa [e 4 (by omega)] at this
end

theorem Mem.drew {w : World} {base p : Nat} {k : Int} {v u : Value} {n : Nat} {T : Nat → En} {L : Nat} {S : Nat → Nat} (h : Mem w base p k v u n T L S) : Mem w.drew base p k v u n T L S := h.gr (Ke.refl _ _).drew
theorem Mem.alloc {w : World} {base p : Nat} {k : Int} {v u : Value} {n : Nat} {T : Nat → En} {L : Nat} {S : Nat → Nat} (h : Mem w base p k v u n T L S) (o : Obj) : Mem (w.alloc o) base p k v u n T L S := h.gr ((Ke.refl _ _).alloc o)

section
variable {w : World} {base p : Nat} {k : Int} {u : Value} {n : Nat} {T : Nat → En} {L : Nat} {S : Nat → Nat} {g cap : Nat}
theorem blk_other (w : World) (g o : Nat) (x : Value) (j : Nat) (h : j ≠ g) : (w.setCell ⟨g, o, none⟩ x).heap[j]? = w.heap[j]? := Below.heap_setCell _ _ _ _ h
theorem Mem.setRow {w' : World} {T' : Nat → En} (h : Mem w base p k (.slice (some ⟨g, 0, none⟩) n cap) u n T L S) (hb : ∀ j, j ≠ g → w'.heap[j]? = w.heap[j]?) (ht : Row w' base 85 5 (.slice (some ⟨g, 0, none⟩) n cap) n (ec T')) :
    Mem w' base p k (.slice (some ⟨g, 0, none⟩) n cap) u n T' L S := by
  have hpg : p ≠ g := fun e => h.pv (by simp [Value.ownBlock, e])
  have ep := hb p hpg
  exact { h with
    c0 := (World.cell?_of_block ep).trans h.c0, c1 := (World.cell?_of_block ep).trans h.c1, c2 := (World.cell?_of_block ep).trans h.c2
    fz := fun o => (World.frozen?_of_block (a := ⟨p, o, none⟩) ep).trans (h.fz o)
    tr := ht
    sp := h.sp.keep (fun q hq => hb q (fun e => h.vu g rfl (by rw [hq, e]))) }
theorem Mem.setT (h : Mem w base p k (.slice (some ⟨g, 0, none⟩) n cap) u n T L S) (i : Nat) (e : En) :
    Mem (((((w.setCell ⟨g, i * 5, none⟩ (.int .i64 e.s)).setCell ⟨g, i * 5 + 1, none⟩ (.int .i64 e.r.d)).setCell ⟨g, i * 5 + 2, none⟩ (.int .i64 e.r.b)).setCell ⟨g, i * 5 + 3, none⟩ (.int .i64 e.r.g)).setCell ⟨g, i * 5 + 4, none⟩ (.int .i64 e.r.i)) base p k (.slice (some ⟨g, 0, none⟩) n cap) u n (upd T i e) L S := by
  refine h.setRow (fun j hj => ?_) ?_
  · rw [blk_other _ _ _ _ _ hj, blk_other _ _ _ _ _ hj, blk_other _ _ _ _ _ hj, blk_other _ _ _ _ _ hj, blk_other _ _ _ _ _ hj]
  · rw [ec_set]; exact ((((h.tr.set _ _).set _ _).set _ _).set _ _).set _ _
theorem Mem.setS {v : Value} {q cap2 : Nat} (h : Mem w base p k v (.slice (some ⟨q, 0, none⟩) L cap2) n T L S) (s x : Nat) {y : Int} (hy : y = (x : Int)) :
    Mem (w.setCell ⟨q, s, none⟩ (.int .i32 y)) base p k v (.slice (some ⟨q, 0, none⟩) L cap2) n T L (upd S s x) := by
  subst hy
  have hb : ∀ j, j ≠ q → (w.setCell ⟨q, s, none⟩ (.int .i32 (x : Int))).heap[j]? = w.heap[j]? := fun j hj => Below.heap_setCell _ _ _ _ hj
  have hpq : p ≠ q := fun e => h.pu (by simp [Value.ownBlock, e])
  have ep := hb p hpq
  exact { h with
    c0 := (World.cell?_of_block ep).trans h.c0, c1 := (World.cell?_of_block ep).trans h.c1, c2 := (World.cell?_of_block ep).trans h.c2
    fz := fun o => (World.frozen?_of_block (a := ⟨p, o, none⟩) ep).trans (h.fz o)
    tr := h.tr.keep (fun g hg => hb g (fun e => h.vu g hg (by rw [e]; rfl)))
    sp := by rw [sc_set]; exact h.sp.set _ _ }
end

theorem set_any (w : World) (base p : Nat) (k : Int) (v u : Value) (n : Nat) (T : Nat → En) (L : Nat) (S : Nat → Nat) (h : Mem w base p k v u n T L S) (i : Nat) (hi : i < n) (e : En) (he : e.s < L) :
    Calls Try.prog 41 #[.pointer (some ⟨p, 0, none⟩), .int .i64 i, VE e] w fun x w' => x = .returned (.tuple #[]) ∧ Mem w' base p k v u n (upd T i e) L (upd S e.s (i + 1)) ∧ Ke (Foot p v u) w w' := by
  obtain ⟨g, cap, rfl, bg, lg, nc, cm⟩ := h.tr.form (by omega)
  obtain ⟨q, cap2, rfl, bq, lq, nc2, cm2⟩ := h.sp.form (by omega)
  obtain ⟨es, ed, eb, eg, ei⟩ := e
  simp only at he ⊢
  have H := Lib.hid h
  have c0 := h.c0
  have c1 := h.c1
  have c2 := h.c2
  obtain ⟨t0, t1, t2, t3, t4⟩ := tree_cells h.tr i hi
  have f0 := h.tr.frozen (i * 5)
  have f1 := h.tr.frozen (i * 5 + 1)
  have f2 := h.tr.frozen (i * 5 + 2)
  have f3 := h.tr.frozen (i * 5 + 3)
  have f4 := h.tr.frozen (i * 5 + 4)
  have s0 := h.sp.cell es (by omega)
  unfold sc at s0
  have z0 := h.sp.frozen es
  have pl := h.pl
  have hgp : ¬ g = p := fun e => h.pv (by simp [Value.ownBlock, e])
  have hqp : ¬ q = p := fun e => h.pu (by simp [Value.ownBlock, e])
  have hgq : ¬ g = q := fun e => h.vu g rfl (by simp [Value.ownBlock, e])
  have hn6 := h.n6
  have hl6 := h.l6
  clear h
  have hw : IntKind.i32.wrap ((i : Int) + 1) = (i : Int) + 1 := by rw [IntKind.wrap_i32]; omega
  have hiz : (i : Int) < (n : Int) := by omega
  have hez : (es : Int) < (L : Int) := by omega
  go_enter Try.func41, Try.ntmps41
  go_wp2
  go_region
  go_wp2
  go_region
  go_end0
  have m := ((((H.out.setT i ⟨es, ed, eb, eg, ei⟩).setS es (i + 1) (y := (i : Int) + 1) (by omega)).alloc (.cells #[.int .i64 es, .int .i64 ed, .int .i64 eb, .int .i64 eg, .int .i64 ei] 85)).drew).drew
  refine ⟨rfl, m, ?_⟩
  have F1 : Foot p (.slice (some ⟨g, 0, none⟩) n cap) (.slice (some ⟨q, 0, none⟩) L cap2) g := .inr (.inl rfl)
  have F2 : Foot p (.slice (some ⟨g, 0, none⟩) n cap) (.slice (some ⟨q, 0, none⟩) L cap2) q := .inr (.inr rfl)
  exact (((((((((Ke.refl _ w).set (.inl F1) _).set (.inl F1) _).set (.inl F1) _).set (.inl F1) _).set (.inl F1) _).set (.inl F2) _).alloc _).drew).drew

end Go.Proofs.Ytkapejgokcpbiaa
