/- CalendarPlays: a round's state; the row built anew. -/
import Derived.Test.YtkpflhlalpkgnaaU8
namespace Go.Proofs.Ytkpflhlalpkgnaa
open Go.RowKit Go.Lib Go.Maps
set_option linter.unusedVariables false

/-- What a round begins and ends with. -/
def Inv (w0 : World) (p i : Nat) (s4 : Value) (w : World) : Prop := ∃ (c : Nat) (F : Nat → Prop) (A : List Dd) (a : Option Addr) (n cap : Nat), s4 = .slice a n cap ∧ CL w0 w p c F (A.map ky) ∧ Mr w w0.heap.size F a n cap A ∧ c ≤ i ∧ n ≤ i

/-- All deeds that came in. -/
def DdsIn (w : World) (b off N : Nat) (q : Nat → Deed) : Prop := ∀ i, i < N → w.cell? ⟨b, off + i * 3, none⟩ = some (.int .i64 (q i).o) ∧ w.cell? ⟨b, off + i * 3 + 1, none⟩ = some (.int .i64 (q i).t) ∧ w.cell? ⟨b, off + i * 3 + 2, none⟩ = some (.int .i64 (q i).i)
def DdsAt (w : World) (a : Option Addr) (n : Nat) (q : Nat → Deed) : Prop := 0 < n → ∃ b0 o0, a = some ⟨b0, o0, none⟩ ∧ b0 < w.heap.size ∧ DdsIn w b0 o0 n q
theorem ddsAt_of {w : World} {a : Option Addr} {n : Nat} (h : ElemsIn w 3 deedCells a n) : ∃ q, DdsAt w a n q := by
  rcases h with e | ⟨b, off, q, rfl, hb, hc⟩
  · exact ⟨fun _ => default, fun h => by omega⟩
  · exact ⟨q, fun _ => ⟨b, off, rfl, hb, fun i hi => ⟨by simpa [deedCells] using hc i hi 0 (by omega), by simpa [deedCells] using hc i hi 1 (by omega), by simpa [deedCells] using hc i hi 2 (by omega)⟩⟩⟩

/-- The state within a round: the calendar, the row, the deed's box. -/
structure Pl (w0 w : World) (p c : Nat) (F : Nat → Prop) (L : List Ky) (a : Option Addr) (n cap : Nat) (A : List Dd) (B : Nat) (d : Dd) : Prop where
  cl : CL w0 w p c F L
  mr : Mr w w0.heap.size F a n cap A
  b0 : w.cell? ⟨B, 0, none⟩ = some (.int .i64 d.o)
  b1 : w.cell? ⟨B, 1, none⟩ = some (.int .i64 d.t)
  b2 : w.cell? ⟨B, 2, none⟩ = some (.int .i64 d.i)
  nB : ¬ F B
section
variable {w0 w w' : World} {p c c' : Nat} {F F' : Nat → Prop} {L L' : List Ky} {a : Option Addr} {n cap : Nat} {A : List Dd} {B : Nat} {d : Dd}
theorem Pl.gr (h : Pl w0 w p c F L a n cap A B d) (g : Gr w w') : Pl w0 w' p c F L a n cap A B d := ⟨h.cl.gr g, h.mr.gr g, gcell g h.b0, gcell g h.b1, gcell g h.b2, h.nB⟩
theorem Pl.next (h : Pl w0 w p c F L a n cap A B d) (k : CL w0 w' p c' F' L') (s : Sv F F' w w') : Pl w0 w' p c' F' L' a n cap A B d := by
  obtain ⟨e1, l1, n1⟩ := sv_not s (lt_of_cell h.b0) h.nB
  exact ⟨k, h.mr.sv s, (World.cell?_of_block (a := ⟨B, 0, none⟩) e1).trans h.b0, (World.cell?_of_block (a := ⟨B, 1, none⟩) e1).trans h.b1, (World.cell?_of_block (a := ⟨B, 2, none⟩) e1).trans h.b2, n1⟩
theorem Pl.start (h : CL w0 w p c F L) (m : Mr w w0.heap.size F a n cap A) (d : Dd) : Pl w0 (w.alloc (.cells #[.int .i64 d.o, .int .i64 d.t, .int .i64 d.i] 27)) p c F L a n cap A w.heap.size d := by
  have g : Gr w (w.alloc (.cells #[.int .i64 d.o, .int .i64 d.t, .int .i64 d.i] 27)) := (Ke.refl _ _).alloc _
  exact ⟨h.gr g, m.gr g, by simp [go_sem], by simp [go_sem], by simp [go_sem], fun q => by have := (h.cl.lt q).2; omega⟩
end

set_option maxRecDepth 100000 in
set_option maxHeartbeats 2000000 in
theorem plays_big (a : Option Addr) (n c0 : Nat) (w : World) (h : 200 < n) : Calls Try.prog 3 #[.slice a n c0] w fun e w' => e = .returned (.bool true) ∧ Below w.heap.size w w' := by
  have CA := Lib.hid (awake_true w)
  have d1 : (n : Int) > 200 := by omega
  go_enter Try.func3, Try.ntmps3
  go_wp2_with fail
  refine CA.out.mono ?_
  rintro e w1 ⟨rfl, B1⟩
  have BB := Lib.hid B1
  clear CA B1
  go_wp2
  go_ret
  exact ⟨rfl, BB.out⟩

/-- An append, as one step of a region that draws. -/
theorem step_append_ex {P : Program} {ops : Array Oper} {o : Oper} {a : Act} {w : World} {K : Act → World → Prop} {Q : Exit → Act → World → Prop} {X : Prop}
    (hg : o.guard = none) (s x : Operand) (t : TypeId) (hop : o.op = Op.call { callee := Callee.builtin Builtin.append, args := #[s, x], argTypes := #[t, t] })
    (vs vx : Value) (hs : a.eval s = vs) (hx : a.eval x = vx) (Post : Value → World → Prop) (hr : ∃ v' w', (∀ ty, (Builtin.append_ #[t, t] ty #[vs, vx]).run P w = .ok v' w') ∧ Post v' w') (hK : ∀ v' w', Post v' w' → K (a.put o.dst v') w') :
    if Region.wanted o (yielded ops a.tmps) = true then Oper.wp P o a w K Q else X := by
  obtain ⟨v', w', h1, h2⟩ := hr
  exact step_append_run hg s x t hop vs vx hs hx v' w' h1 (hK v' w' h2)

theorem gr_ke {G : Nat → Prop} {W X X1 : World} (g : Gr W X) (k : Ke G X X1) (hG : ∀ j, G j → W.heap.size ≤ j) : Gr W X1 :=
  ⟨k.os.trans g.os, k.tape.trans g.tape, k.output.trans g.output, Nat.le_trans g.size k.size, fun j hj _ => (k.block j (Nat.lt_of_lt_of_le hj g.size) (fun q => by have := hG j q; omega)).trans (g.block j hj (fun q => q))⟩

/-- Where the deed belongs, so far: those behind come later. -/
structure AtI (A : List Dd) (d : Dd) (k : Nat) : Prop where
  le : k ≤ A.length
  lt : ∀ j, k ≤ j → j < A.length → lt2 (ky d) (ky (A.getD j default))
/-- .. found. -/
def AtF (A : List Dd) (d : Dd) (W : World) (s7 : Value) (w : World) : Prop := ∃ k : Nat, s7 = .int .i64 k ∧ AtI A d k ∧ (k = 0 ∨ ¬ lt2 (ky d) (ky (A.getD (k - 1) default))) ∧ Gr W w
theorem AtI.start (A : List Dd) (d : Dd) : AtI A d A.length := ⟨Nat.le_refl _, fun j h1 h2 => by omega⟩
theorem AtI.step {A : List Dd} {d : Dd} {k : Nat} (h : AtI A d (k + 1)) (hl : lt2 (ky d) (ky (A.getD k default))) : AtI A d k := ⟨by have := h.le; omega, fun j h1 h2 => by
  by_cases e : j = k
  · subst e; exact hl
  · exact h.lt j (by omega) h2⟩

/-! ### the row built anew: m[:k], d, m[k:] -/
/-- A row so far; nothing of W has turned. -/
structure Bd (W : World) (A : List Dd) (v : Value) (X : World) : Prop where
  row : Row X W.heap.size 27 3 v A.length (dc A)
  gr : Gr W X
theorem Bd.next {W X X1 : World} {A : List Dd} {v : Value} (h : Bd W A v X) (g : Gr X X1) : Bd W A v X1 := ⟨h.row.keep (fun k hk => g.block k (h.row.lt hk).2 (fun q => q)), h.gr.trans g⟩
theorem bd_of {W X X1 : World} {A : List Dd} {v v' : Value} {B : List Dd} (g : Gr W X) (r : Row X W.heap.size 27 3 v B.length (dc B)) (h : ApP X W.heap.size v A v' X1) : Bd W A v' X1 :=
  ⟨h.row, gr_ke g ((Ke.refl (fun j => v.ownBlock = some j) X).grown h.gr (fun k e => .inl e)) (fun j q => (r.lt q).1)⟩
/-- The first append: onto a new, empty row; other new blocks stay. -/
structure B1 (W X : World) (b : Nat) (A : List Dd) (v : Value) (X1 : World) : Prop where
  bd : Bd W A v X1
  ke : Ke (fun j => j = b) X X1
theorem B1.blk {W X : World} {b : Nat} {A : List Dd} {v : Value} {X1 : World} (h : B1 W X b A v X1) (j : Nat) (hj : j < X.heap.size) (hn : j ≠ b) : X1.heap[j]? = X.heap[j]? := h.ke.block j hj hn
theorem heap_a (W : World) (o : Obj) : (W.alloc o).drew.heap[W.heap.size]? = some o := heap_alloc_new W o
theorem heap_b (W : World) (o o2 : Obj) : ((W.alloc o).alloc o2).drew.heap[W.heap.size]? = some o := (Below.heap_alloc (W.alloc o) o2 W.heap.size (by simp)).trans (heap_alloc_new W o)
theorem heap_c (W : World) (o2 o : Obj) : ((W.alloc o2).alloc o).drew.heap[W.heap.size + 1]? = some o := by
  have := heap_alloc_new (W.alloc o2) o
  rw [show (W.alloc o2).heap.size = W.heap.size + 1 by simp] at this
  exact this
theorem ap1 {W : World} {base : Nat} {F : Nat → Prop} {a : Option Addr} {n cap : Nat} {A : List Dd} (m : Mr W base F a n cap A) (k : Nat) (hk : k ≤ n) (hn : n ≤ 1000) (X : World) (gX : Gr W X) (b : Nat) (hb : W.heap.size ≤ b) (hX : X.heap[b]? = some (.cells #[] 27 (0, 0))) :
    ∃ v1 X1, (∀ ty, (Builtin.append_ #[22, 22] ty #[.slice (some ⟨b, 0, none⟩) 0 0, .slice a k cap]).run Try.prog X = .ok v1 X1) ∧ B1 W X b (A.take k) v1 X1 := by
  have hA := m.len
  have r0 : Row X W.heap.size 27 3 (.slice (some ⟨b, 0, none⟩) 0 0) ([] : List Dd).length (dc []) := ⟨rfl, .inr ⟨b, 0, #[], rfl, hb, hX, Nat.le_refl _, by unfold maxLen; omega, rfl, rfl⟩⟩
  have fin : ∀ v1 X1, ApP X W.heap.size (.slice (some ⟨b, 0, none⟩) 0 0) (A.take k) v1 X1 → B1 W X b (A.take k) v1 X1 := fun v1 X1 h => ⟨bd_of gX r0 h, (Ke.refl _ X).grown h.gr (fun j e => by
    have : b = j := by simpa [Value.ownBlock] using e
    exact .inl this.symm)⟩
  rcases m.at_ with ⟨rfl, e⟩ | ⟨g, off, rfl, hbg, hl, hF, hc⟩
  · have hn0 := m.nc
    obtain rfl : cap = 0 := e
    obtain rfl : k = 0 := by omega
    obtain ⟨v1, X1, hr, h1⟩ := app_dd_none X W.heap.size _ [] r0
    exact ⟨v1, X1, hr, fin v1 X1 (by simpa using h1)⟩
  · obtain ⟨v1, X1, hr, h1⟩ := app_dd X W.heap.size _ [] (A.take k) r0 (Nat.le_trans hb (Nat.le_of_lt (Array.getElem?_eq_some_iff.1 hX).1)) (by simp; omega) ⟨g, off, none⟩ k cap (by simp; omega) (fun j hj => by
      have e : (⟨g, off, none⟩ : Addr).add j = ⟨g, off + j, none⟩ := by unfold Addr.add; split <;> simp_all
      rw [e]
      refine (gcell gX (hc j (by omega))).trans ?_
      unfold dc
      rw [List.getD_eq_getElem?_getD, List.getD_eq_getElem?_getD, List.getElem?_take_of_lt (by omega)])
    exact ⟨v1, X1, hr, fin v1 X1 (by simpa using h1)⟩
theorem ap2 {W X : World} {A : List Dd} {v : Value} (h : Bd W A v X) (hA : A.length ≤ 1000) (d : Dd) (b : Nat) (hX : X.heap[b]? = some (.cells #[.int .i64 d.o, .int .i64 d.t, .int .i64 d.i] 27 (0, 0))) :
    ∃ v1 X1, (∀ ty, (Builtin.append_ #[22, 22] ty #[v, .slice (some ⟨b, 0, none⟩) 1 1]).run Try.prog X = .ok v1 X1) ∧ Bd W (A ++ [d]) v1 X1 := by
  obtain ⟨v1, X1, hr, h1⟩ := app_dd X W.heap.size v A [d] h.row h.gr.size (by simp; omega) ⟨b, 0, none⟩ 1 1 rfl (fun j hj => by
    have e : (⟨b, 0, none⟩ : Addr).add j = ⟨b, j, none⟩ := by unfold Addr.add; split <;> simp_all
    rw [e, cell_of_row _ _ _ _ _ _ hX]
    rcases (show j = 0 ∨ j = 1 ∨ j = 2 by omega) with rfl | rfl | rfl <;> rfl)
  exact ⟨v1, X1, hr, bd_of h.gr h.row h1⟩
/-- m[k:], as a value. -/
def HiV (a : Option Addr) (n k : Nat) (v : Value) : Prop := (v = .slice none 0 0 ∧ n = k) ∨ ∃ g off A2 c2, a = some ⟨g, off, none⟩ ∧ v = .slice (some A2) (n - k) c2 ∧ ∀ j, j < (n - k) * 3 → A2.add j = ⟨g, off + k * 3 + j, none⟩
theorem ap3 {W X : World} {base : Nat} {F : Nat → Prop} {a : Option Addr} {n cap : Nat} {A : List Dd} (m : Mr W base F a n cap A) (k : Nat) (hk : k ≤ n) (hn : n ≤ 1000) {v : Value} {C : List Dd} (h : Bd W C v X) (hC : C.length ≤ 1001) (vh : Value) (hv : HiV a n k vh) :
    ∃ v1 X1, (∀ ty, (Builtin.append_ #[22, 22] ty #[v, vh]).run Try.prog X = .ok v1 X1) ∧ Bd W (C ++ A.drop k) v1 X1 := by
  have hA := m.len
  rcases hv with ⟨rfl, rfl⟩ | ⟨g, off, A2, c2, ha, rfl, h2⟩
  · obtain ⟨v1, X1, hr, h1⟩ := app_dd_none X W.heap.size v C h.row
    refine ⟨v1, X1, hr, bd_of h.gr h.row ?_⟩
    rw [List.drop_eq_nil_of_le (by omega), List.append_nil]
    exact h1
  · obtain ⟨v1, X1, hr, h1⟩ := app_dd X W.heap.size v C (A.drop k) h.row h.gr.size (by simp; omega) A2 (n - k) c2 (by simp; omega) (fun j hj => by
      rcases m.at_ with ⟨e, _⟩ | ⟨g', off', e, hbg, hl, hF, hc⟩
      · rw [e] at ha; cases ha
      · rw [e] at ha
        cases ha
        rw [h2 j hj, Nat.add_assoc]
        refine (gcell h.gr (hc (k * 3 + j) (by omega))).trans ?_
        unfold dc
        rw [List.getD_eq_getElem?_getD, List.getD_eq_getElem?_getD, List.getElem?_drop, show (k * 3 + j) / 3 = k + j / 3 by omega, show (k * 3 + j) % 3 = j % 3 by omega])
    exact ⟨v1, X1, hr, bd_of h.gr h.row h1⟩
section
variable {ops : Array Oper} {o : Oper} {a : Act} {w : World} {K : Act → World → Prop} {Q : Exit → Act → World → Prop} {Y : Prop}
theorem step1 (hg : o.guard = none) (s x : Operand) (hop : o.op = Op.call { callee := Callee.builtin Builtin.append, args := #[s, x], argTypes := #[22, 22] }) {W : World} {base : Nat} {F : Nat → Prop} {aa : Option Addr} {n cap : Nat} {A : List Dd} (m : Mr W base F aa n cap A) (k b : Nat)
    (hs : a.eval s = .slice (some ⟨b, 0, none⟩) 0 0) (hx : a.eval x = .slice aa k cap) (hk : k ≤ n) (hn : n ≤ 1000) (gX : Gr W w) (hb : W.heap.size ≤ b) (hX : w.heap[b]? = some (.cells #[] 27 (0, 0))) (hK : ∀ v' w', B1 W w b (A.take k) v' w' → K (a.put o.dst v') w') :
    if Region.wanted o (yielded ops a.tmps) = true then Oper.wp Try.prog o a w K Q else Y := by
  obtain ⟨v', w', h1, h2⟩ := ap1 m k hk hn w gX b hb hX
  exact step_append_run hg s x 22 hop _ _ hs hx v' w' h1 (hK v' w' h2)
theorem step2 (hg : o.guard = none) (s x : Operand) (hop : o.op = Op.call { callee := Callee.builtin Builtin.append, args := #[s, x], argTypes := #[22, 22] }) {W : World} {A : List Dd} {v : Value} (h : Bd W A v w) (d : Dd) (b : Nat)
    (hs : a.eval s = v) (hx : a.eval x = .slice (some ⟨b, 0, none⟩) 1 1) (hA : A.length ≤ 1000) (hX : w.heap[b]? = some (.cells #[.int .i64 d.o, .int .i64 d.t, .int .i64 d.i] 27 (0, 0))) (hK : ∀ v' w', Bd W (A ++ [d]) v' w' → K (a.put o.dst v') w') :
    if Region.wanted o (yielded ops a.tmps) = true then Oper.wp Try.prog o a w K Q else Y := by
  obtain ⟨v', w', h1, h2⟩ := ap2 h hA d b hX
  exact step_append_run hg s x 22 hop _ _ hs hx v' w' h1 (hK v' w' h2)
theorem step3 (hg : o.guard = none) (s x : Operand) (hop : o.op = Op.call { callee := Callee.builtin Builtin.append, args := #[s, x], argTypes := #[22, 22] }) {W : World} {base : Nat} {F : Nat → Prop} {aa : Option Addr} {n cap : Nat} {A : List Dd} (m : Mr W base F aa n cap A) (k : Nat) {C : List Dd} {v : Value} (h : Bd W C v w) (vh : Value)
    (hs : a.eval s = v) (hx : a.eval x = vh) (hk : k ≤ n) (hn : n ≤ 1000) (hC : C.length ≤ 1001) (hv : HiV aa n k vh) (hK : ∀ v' w', Bd W (C ++ A.drop k) v' w' → K (a.put o.dst v') w') :
    if Region.wanted o (yielded ops a.tmps) = true then Oper.wp Try.prog o a w K Q else Y := by
  obtain ⟨v', w', h1, h2⟩ := ap3 m k hk hn h hC vh hv
  exact step_append_run hg s x 22 hop _ _ hs hx v' w' h1 (hK v' w' h2)
end
/-- The round's end behind a Put. -/
theorem put_end {w0 W X : World} {p c i : Nat} {F : Nat → Prop} {a : Option Addr} {n cap : Nat} {A : List Dd} {B k : Nat} {d : Dd} {v : Value} (h : Pl w0 W p (c + 1) F (ins (ky d) (A.map ky)) a n cap A B d) (hs : (A.map ky).Pairwise le2) (hc : c ≤ i) (hn : n ≤ i) (at_ : AtI A d k) (ex : k = 0 ∨ ¬ lt2 (ky d) (ky (A.getD (k - 1) default))) (hb : Bd W (A.take k ++ [d] ++ A.drop k) v X) : Inv w0 p (i + 1) v X := by
  have hl := h.mr.len
  have e := ins_at hs d at_.le at_.lt ex
  have hF : ∀ g, v.ownBlock = some g → ¬ F g := fun g hg q => by
    have := (hb.row.lt hg).1
    have := (h.cl.cl.lt q).2
    omega
  obtain ⟨a', cap', rfl, mr⟩ := mr_of_row hb.row hF
  refine ⟨c + 1, F, _, a', _, cap', rfl, ?_, ⟨mr.len, mr.nc, mr.cm, ?_⟩, by omega, ?_⟩
  · rw [e]; exact h.cl.gr hb.gr
  · rcases mr.at_ with q | ⟨g, off, q1, q2, q3⟩
    · exact .inl q
    · exact .inr ⟨g, off, q1, Nat.le_trans h.cl.below.size q2, q3⟩
  · have := at_.le
    simp only [List.length_append, List.length_take, List.length_drop, List.length_cons, List.length_nil]
    omega

/-- Where the rest of a slice begins. -/
theorem slice_at (g off cap k n : Nat) (hk : k ≤ n) (hn : n ≤ cap) : ∃ A2 : Addr, (if cap = k then some (⟨g, off, none⟩ : Addr) else some ⟨g, off + k * 3, none⟩) = some A2 ∧ ∀ j, j < (n - k) * 3 → A2.add j = ⟨g, off + k * 3 + j, none⟩ := by
  by_cases e : cap = k
  · refine ⟨⟨g, off, none⟩, by simp [e], fun t ht => ?_⟩
    have : n - k = 0 := by omega
    rw [this] at ht; omega
  · refine ⟨⟨g, off + k * 3, none⟩, by simp [e], fun t ht => ?_⟩
    unfold Addr.add; split <;> simp_all
theorem mr_drop {w : World} {base : Nat} {F : Nat → Prop} {g off n cap : Nat} {A : List Dd} (h : Mr w base F (some ⟨g, off, none⟩) n cap A) (k : Nat) (hk : k ≤ n) (A2 : Addr) (hA : (if cap = k then some (⟨g, off, none⟩ : Addr) else some ⟨g, off + k * 3, none⟩) = some A2) : Mr w base F (some A2) (n - k) (cap - k) (A.drop k) := by
  have hl := h.len
  have hnc := h.nc
  have hcm := h.cm
  refine ⟨by simp; omega, by omega, by omega, .inr ?_⟩
  rcases h.at_ with ⟨e, _⟩ | ⟨g', off', e, hb, hlt, hF, hc⟩
  · cases e
  · cases e
    by_cases q : cap = k
    · rw [if_pos q] at hA
      cases hA
      exact ⟨g, off, rfl, hb, hlt, hF, fun j hj => by omega⟩
    · rw [if_neg q] at hA
      cases hA
      refine ⟨g, off + k * 3, rfl, hb, hlt, hF, fun j hj => ?_⟩
      rw [Nat.add_assoc]
      refine (hc (k * 3 + j) (by omega)).trans ?_
      unfold dc
      rw [List.getD_eq_getElem?_getD, List.getD_eq_getElem?_getD, List.getElem?_drop, show (k * 3 + j) / 3 = k + j / 3 by omega, show (k * 3 + j) % 3 = j % 3 by omega]
/-- How many are due, counted by the law. -/
def DuF (A : List Dd) (t : Int) (W : World) (s9 : Value) (w : World) : Prop := ∃ k : Nat, s9 = .int .i64 k ∧ k ≤ A.length ∧ (∀ j, j < k → (A.getD j default).t ≤ t) ∧ (k = A.length ∨ ¬ (A.getD k default).t ≤ t) ∧ Gr W w
theorem bd_start (W : World) : Bd W [] (.slice none 0 0) W := ⟨World.ownsRow_nil _ _ _ _, Ke.refl _ _⟩
theorem mr_of_bd {w0 W X : World} {p c : Nat} {F : Nat → Prop} {L : List Ky} {C : List Dd} {a : Option Addr} {m cap : Nat} (h : Bd W C (.slice a m cap) X) (cl : CL w0 W p c F L) : Mr X w0.heap.size F a m cap C := by
  obtain ⟨a', cap', e, mr⟩ := mr_of_row h.row (F := F) (fun g hg q => by
    have := (h.row.lt hg).1
    have := (cl.cl.lt q).2
    omega)
  cases e
  refine ⟨mr.len, mr.nc, mr.cm, ?_⟩
  rcases mr.at_ with q | ⟨g, off, q1, q2, q3⟩
  · exact .inl q
  · exact .inr ⟨g, off, q1, Nat.le_trans cl.below.size q2, q3⟩
end Go.Proofs.Ytkpflhlalpkgnaa
