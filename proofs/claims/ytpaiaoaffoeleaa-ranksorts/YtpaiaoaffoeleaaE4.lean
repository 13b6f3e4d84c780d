/- The invariant of a statement that builds a row by three appends, in an order that Go leaves open in part. -/
import Derived.Test.YtpaiaoaffoeleaaD4
namespace Go.Proofs.Ytpaiaoaffoeleaa
open Go.Shelf Go.RowKit Go.Lib Go.Sort
set_option linter.unusedVariables false

/-- The region by its invariant, which may name the frame at its head. -/
theorem wp_region_inv' {P : Program} {id : Nat} {Q : Exit → Act → World → Prop} {a : Act} {w : World} {l : List Oper} (n : Nat) (hm : P.follows .mixedOrders = true) (hB : invB l.toArray n = true) (J : Act → (Nat → Bool) → Act → World → Prop)
    (h0 : J a (fun _ => false) a w.drew)
    (step : ∀ L a' w i o, J a L a' w → i < n → l.toArray[i]? = some o → L i = false → (∀ e ∈ o.after, Region.binds .any e = true → L e.on = true) → wpOp P l.toArray Q i (fun a'' w' => J a (fun j => if j = i then true else L j) a'' w') a' w)
    (fin : ∀ a' w, J a (fun j => decide (j < n)) a' w → wpList P l.toArray Q (l.drop n) a' w) : (Code.region id l.toArray true).wp P Q a w :=
  wp_region_inv n hm hB (J a) h0 step fin

/-- An append whose run is known. -/
theorem wpOp_append {ops : Array Oper} {i : Nat} {o : Oper} {a : Act} {w : World} {K : Act → World → Prop} {Q : Exit → Act → World → Prop} (ho : ops[i]? = some o) (hg : o.guard = none) (s x : Operand)
    (hop : o.op = .call { callee := .builtin .append, args := #[s, x], argTypes := #[33, 33] }) (vs vx : Value) (hs : a.eval s = vs) (hx : a.eval x = vx) (v' : Value) (w' : World)
    (hrun : ∀ ty, (Builtin.append_ #[33, 33] ty #[vs, vx]).run Try.prog w = .ok v' w') (hK : K (a.put o.dst v') w') : wpOp Try.prog ops Q i K a w := by
  refine wpOp_step ho (fun K' hK' => ?_)
  have hw : Region.wanted o (yielded ops a.tmps) = true := by simp [Region.wanted, hg]
  rw [if_pos hw]
  unfold Oper.wp execOp
  simp only [hop, resolve, invoke, builtin, Sem.run_bind, Sem.run_pure, Result.andThen_ok, List.map_toArray, List.map_cons, List.map_nil, hs, hx, hrun]
  exact hK' _ _ hK

/-- A row of ranks appended to a row of the call's own. -/
theorem append23 {base : Nat} {v : Value} {l : List Rk} {w : World} (h : Own base 23 w v l) (ad : Addr) (c : Nat) (news : List Rk) (hc : ∀ j u, (flatL news)[j]? = some u → w.cell? (ad.add j) = some u) (hb : base ≤ w.heap.size) (hl : l.length + news.length ≤ 1000) :
    ∃ v' w', (∀ ty, (Builtin.append_ #[33, 33] ty #[v, .slice (some ad) news.length c]).run Try.prog w = .ok v' w') ∧ Own base 23 w' v' (l ++ news) ∧ w.grownBy w' v.ownBlock ∧ (v'.ownBlock = v.ownBlock ∨ v'.ownBlock = some w.heap.size) := by
  obtain ⟨i, hi, hs, hby, hz⟩ := info23
  obtain ⟨v', w', hr, h1, h2, _, h3⟩ := run_append_own_at (P := Try.prog) w base 33 0 23 i _ 4 32 Try.underlying33 hi hz hs hby rfl (by decide) v l.length (flatL l) h ad news.length c (flatL news) (flatL_length news) hc (flatL_one news) (by unfold maxLen; omega) (by omega) hb
  refine ⟨v', w', fun ty => hr, ?_, h2, h3⟩
  unfold Own
  rw [List.length_append, flatL_append]
  exact h1
theorem append23_nil {base : Nat} {v : Value} {l : List Rk} {w : World} (h : Own base 23 w v l) (c : Nat) : ∀ ty, (Builtin.append_ #[33, 33] ty #[v, .slice none 0 c]).run Try.prog w = .ok v w := by
  intro ty
  obtain ⟨i, hi, hs, hby, hz⟩ := info23
  rcases h.2 with ⟨rfl, _⟩ | ⟨g, cap, cur, rfl, _, _, hn, _, _, _⟩
  · simp [Builtin.append_, run_underlying Try.underlying33, sizeOf, typeInfo, hi, Builtin.lenOf, Builtin.firstCells]
  · simp [Builtin.append_, run_underlying Try.underlying33, sizeOf, typeInfo, hi, Builtin.lenOf, Builtin.firstCells, hn, storeCells]

/-- The frame while the statement runs. -/
def pt (a0 : Act) (s60 s61 s62 s63 s64 s65 s66 s67 s68 s69 s70 s71 s72 s73 : Value) : Act := ((((((((((((((a0.put (some 60) s60).put (some 61) s61).put (some 62) s62).put (some 63) s63).put (some 64) s64).put (some 65) s65).put (some 66) s66).put (some 67) s67).put (some 68) s68).put (some 69) s69).put (some 70) s70).put (some 71) s71).put (some 72) s72).put (some 73) s73)

theorem put_same (a : Act) (t : Nat) : a.put (some t) (a.tmps.getD t undef) = a := by
  unfold Act.put
  simp only
  have e : a.tmps.setIfInBounds t (a.tmps.getD t undef) = a.tmps := by
    refine Array.ext (by simp) fun i h1 h2 => ?_
    rw [Array.getElem_setIfInBounds]
    split
    · rename_i e; subst e; simp [h2]
    · rfl
  rw [e]
theorem pt_self (a : Act) : a = pt a (a.tmps.getD 60 undef) (a.tmps.getD 61 undef) (a.tmps.getD 62 undef) (a.tmps.getD 63 undef) (a.tmps.getD 64 undef) (a.tmps.getD 65 undef) (a.tmps.getD 66 undef) (a.tmps.getD 67 undef) (a.tmps.getD 68 undef) (a.tmps.getD 69 undef) (a.tmps.getD 70 undef) (a.tmps.getD 71 undef) (a.tmps.getD 72 undef) (a.tmps.getD 73 undef) := by
  unfold pt
  simp only [put_same]

/-- What of it has come up so far. -/
structure J20 (B : Nat) (w0 : World) (vw lv S1 S2 : Value) (j i : Nat) (pl : Addr) (x : Rk) (l1 : List Rk) (L : Nat → Bool) (s60 s61 s62 s63 s64 s65 s66 s67 s68 s69 s70 s71 s72 s73 : Value) (w : World) : Prop where
  bl : Below B w0 w
  le : B ≤ w.heap.size
  c4 : L 4 = true → L 0 = true
  c10 : L 10 = true → L 9 = true ∧ L 4 = true
  m1 : L 1 = true → s61 = vw
  m2 : L 2 = true → s62 = .int .i64 j
  m3 : L 3 = true → s63 = S1
  m5 : L 5 = true → s65 = lv
  m6 : L 6 = true → s66 = .int .i64 i
  m7 : L 7 = true → s67 = .pointer (some pl)
  m8 : L 8 = true → s68 = V x
  m11 : L 11 = true → s71 = vw
  m12 : L 12 = true → s72 = .int .i64 j
  m13 : L 13 = true → s73 = S2
  o0 : L 0 = true → L 4 = false → Own B 23 w s60 []
  o4 : L 4 = true → L 10 = false → Own B 23 w s64 l1
  o10 : L 10 = true → Own B 23 w s70 (l1 ++ [x])
  o9 : L 9 = true → L 10 = false → ∃ g9, s69 = .slice (some ⟨g9, 0, none⟩) 1 1 ∧ g9 < w.heap.size ∧ (∀ t u, (flatL [x])[t]? = some u → w.cell? ((⟨g9, 0, none⟩ : Addr).add t) = some u) ∧ (L 0 = true → L 4 = false → s60.ownBlock ≠ some g9) ∧ (L 4 = true → s64.ownBlock ≠ some g9)

variable {B : Nat} {w0 : World} {vw lv S1 S2 : Value} {j i : Nat} {pl : Addr} {x : Rk} {l1 : List Rk} {L : Nat → Bool} {s60 s61 s62 s63 s64 s65 s66 s67 s68 s69 s70 s71 s72 s73 : Value} {w : World}

theorem add_block (a : Addr) (n : Nat) : (a.add n).block = a.block := by unfold Addr.add; split <;> rfl

theorem J20.grow {w' : World} (h : J20 B w0 vw lv S1 S2 j i pl x l1 L s60 s61 s62 s63 s64 s65 s66 s67 s68 s69 s70 s71 s72 s73 w) (g : Gr w w') : J20 B w0 vw lv S1 S2 j i pl x l1 L s60 s61 s62 s63 s64 s65 s66 s67 s68 s69 s70 s71 s72 s73 w' := by
  refine ⟨below_of_gr h.bl g h.le, Nat.le_trans h.le g.size, h.c4, h.c10, h.m1, h.m2, h.m3, h.m5, h.m6, h.m7, h.m8, h.m11, h.m12, h.m13, fun a b => (h.o0 a b).gr g, fun a b => (h.o4 a b).gr g, fun a => (h.o10 a).gr g, fun a b => ?_⟩
  obtain ⟨g9, q1, q2, q3, q4, q5⟩ := h.o9 a b
  exact ⟨g9, q1, Nat.lt_of_lt_of_le q2 g.size, fun t u hu => gcell4 g (q3 t u hu), q4, q5⟩

/-- An append into row v: what else is there stays. -/
theorem J20.app {w' : World} {v : Value} (h : J20 B w0 vw lv S1 S2 j i pl x l1 L s60 s61 s62 s63 s64 s65 s66 s67 s68 s69 s70 s71 s72 s73 w) (gb : w.grownBy w' v.ownBlock) (hv : ∀ q, v.ownBlock = some q → B ≤ q) : Below B w0 w' ∧ B ≤ w'.heap.size :=
  ⟨h.bl.grown gb h.le hv, Nat.le_trans h.le gb.size⟩

theorem J20.mark1 (h : J20 B w0 vw lv S1 S2 j i pl x l1 L s60 s61 s62 s63 s64 s65 s66 s67 s68 s69 s70 s71 s72 s73 w) : J20 B w0 vw lv S1 S2 j i pl x l1 (fun q => if q = 1 then true else L q) s60 vw s62 s63 s64 s65 s66 s67 s68 s69 s70 s71 s72 s73 w :=
  ⟨h.bl, h.le, h.c4, h.c10, fun _ => rfl, h.m2, h.m3, h.m5, h.m6, h.m7, h.m8, h.m11, h.m12, h.m13, h.o0, h.o4, h.o10, h.o9⟩
theorem J20.mark2 (h : J20 B w0 vw lv S1 S2 j i pl x l1 L s60 s61 s62 s63 s64 s65 s66 s67 s68 s69 s70 s71 s72 s73 w) : J20 B w0 vw lv S1 S2 j i pl x l1 (fun q => if q = 2 then true else L q) s60 s61 (.int .i64 j) s63 s64 s65 s66 s67 s68 s69 s70 s71 s72 s73 w :=
  ⟨h.bl, h.le, h.c4, h.c10, h.m1, fun _ => rfl, h.m3, h.m5, h.m6, h.m7, h.m8, h.m11, h.m12, h.m13, h.o0, h.o4, h.o10, h.o9⟩
theorem J20.mark3 (h : J20 B w0 vw lv S1 S2 j i pl x l1 L s60 s61 s62 s63 s64 s65 s66 s67 s68 s69 s70 s71 s72 s73 w) : J20 B w0 vw lv S1 S2 j i pl x l1 (fun q => if q = 3 then true else L q) s60 s61 s62 S1 s64 s65 s66 s67 s68 s69 s70 s71 s72 s73 w :=
  ⟨h.bl, h.le, h.c4, h.c10, h.m1, h.m2, fun _ => rfl, h.m5, h.m6, h.m7, h.m8, h.m11, h.m12, h.m13, h.o0, h.o4, h.o10, h.o9⟩
theorem J20.mark5 (h : J20 B w0 vw lv S1 S2 j i pl x l1 L s60 s61 s62 s63 s64 s65 s66 s67 s68 s69 s70 s71 s72 s73 w) : J20 B w0 vw lv S1 S2 j i pl x l1 (fun q => if q = 5 then true else L q) s60 s61 s62 s63 s64 lv s66 s67 s68 s69 s70 s71 s72 s73 w :=
  ⟨h.bl, h.le, h.c4, h.c10, h.m1, h.m2, h.m3, fun _ => rfl, h.m6, h.m7, h.m8, h.m11, h.m12, h.m13, h.o0, h.o4, h.o10, h.o9⟩
theorem J20.mark6 (h : J20 B w0 vw lv S1 S2 j i pl x l1 L s60 s61 s62 s63 s64 s65 s66 s67 s68 s69 s70 s71 s72 s73 w) : J20 B w0 vw lv S1 S2 j i pl x l1 (fun q => if q = 6 then true else L q) s60 s61 s62 s63 s64 s65 (.int .i64 i) s67 s68 s69 s70 s71 s72 s73 w :=
  ⟨h.bl, h.le, h.c4, h.c10, h.m1, h.m2, h.m3, h.m5, fun _ => rfl, h.m7, h.m8, h.m11, h.m12, h.m13, h.o0, h.o4, h.o10, h.o9⟩
theorem J20.mark7 (h : J20 B w0 vw lv S1 S2 j i pl x l1 L s60 s61 s62 s63 s64 s65 s66 s67 s68 s69 s70 s71 s72 s73 w) : J20 B w0 vw lv S1 S2 j i pl x l1 (fun q => if q = 7 then true else L q) s60 s61 s62 s63 s64 s65 s66 (.pointer (some pl)) s68 s69 s70 s71 s72 s73 w :=
  ⟨h.bl, h.le, h.c4, h.c10, h.m1, h.m2, h.m3, h.m5, h.m6, fun _ => rfl, h.m8, h.m11, h.m12, h.m13, h.o0, h.o4, h.o10, h.o9⟩
theorem J20.mark8 (h : J20 B w0 vw lv S1 S2 j i pl x l1 L s60 s61 s62 s63 s64 s65 s66 s67 s68 s69 s70 s71 s72 s73 w) : J20 B w0 vw lv S1 S2 j i pl x l1 (fun q => if q = 8 then true else L q) s60 s61 s62 s63 s64 s65 s66 s67 (V x) s69 s70 s71 s72 s73 w :=
  ⟨h.bl, h.le, h.c4, h.c10, h.m1, h.m2, h.m3, h.m5, h.m6, h.m7, fun _ => rfl, h.m11, h.m12, h.m13, h.o0, h.o4, h.o10, h.o9⟩
theorem J20.mark11 (h : J20 B w0 vw lv S1 S2 j i pl x l1 L s60 s61 s62 s63 s64 s65 s66 s67 s68 s69 s70 s71 s72 s73 w) : J20 B w0 vw lv S1 S2 j i pl x l1 (fun q => if q = 11 then true else L q) s60 s61 s62 s63 s64 s65 s66 s67 s68 s69 s70 vw s72 s73 w :=
  ⟨h.bl, h.le, h.c4, h.c10, h.m1, h.m2, h.m3, h.m5, h.m6, h.m7, h.m8, fun _ => rfl, h.m12, h.m13, h.o0, h.o4, h.o10, h.o9⟩
theorem J20.mark12 (h : J20 B w0 vw lv S1 S2 j i pl x l1 L s60 s61 s62 s63 s64 s65 s66 s67 s68 s69 s70 s71 s72 s73 w) : J20 B w0 vw lv S1 S2 j i pl x l1 (fun q => if q = 12 then true else L q) s60 s61 s62 s63 s64 s65 s66 s67 s68 s69 s70 s71 (.int .i64 j) s73 w :=
  ⟨h.bl, h.le, h.c4, h.c10, h.m1, h.m2, h.m3, h.m5, h.m6, h.m7, h.m8, h.m11, fun _ => rfl, h.m13, h.o0, h.o4, h.o10, h.o9⟩
theorem J20.mark13 (h : J20 B w0 vw lv S1 S2 j i pl x l1 L s60 s61 s62 s63 s64 s65 s66 s67 s68 s69 s70 s71 s72 s73 w) : J20 B w0 vw lv S1 S2 j i pl x l1 (fun q => if q = 13 then true else L q) s60 s61 s62 s63 s64 s65 s66 s67 s68 s69 s70 s71 s72 S2 w :=
  ⟨h.bl, h.le, h.c4, h.c10, h.m1, h.m2, h.m3, h.m5, h.m6, h.m7, h.m8, h.m11, h.m12, fun _ => rfl, h.o0, h.o4, h.o10, h.o9⟩
theorem J20.mark0 (h : J20 B w0 vw lv S1 S2 j i pl x l1 L s60 s61 s62 s63 s64 s65 s66 s67 s68 s69 s70 s71 s72 s73 w) : J20 B w0 vw lv S1 S2 j i pl x l1 (fun q => if q = 0 then true else L q) (.slice (some ⟨w.heap.size, 0, none⟩) 0 0) s61 s62 s63 s64 s65 s66 s67 s68 s69 s70 s71 s72 s73 (w.alloc (.cells #[] 23)) := by
  have k := h.grow ((Gr.refl w).alloc (.cells #[] 23))
  have e0 : (w.alloc (.cells #[] 23)).heap[w.heap.size]? = some (.cells #[] 23 (0, 0)) := (MapKept.heap_alloc w _).1
  refine ⟨k.bl, k.le, fun _ => rfl, k.c10, k.m1, k.m2, k.m3, k.m5, k.m6, k.m7, k.m8, k.m11, k.m12, k.m13, fun _ _ => ⟨rfl, .inr ⟨w.heap.size, 0, #[], rfl, h.le, e0, Nat.le_refl _, Nat.zero_le _, rfl, rfl⟩⟩, k.o4, k.o10, fun a b => ?_⟩
  obtain ⟨g9, q1, q2, q3, q4, q5⟩ := h.o9 a b
  obtain ⟨g9', r1, r2, r3, r4, r5⟩ := k.o9 a b
  refine ⟨g9, q1, by simp; omega, ?_, fun _ _ => ?_, q5⟩
  · have : g9 = g9' := by rw [q1] at r1; simpa using r1
    rw [this]; exact r3
  · show some w.heap.size ≠ some g9
    simp; omega
theorem J20.mark9 (h : J20 B w0 vw lv S1 S2 j i pl x l1 L s60 s61 s62 s63 s64 s65 s66 s67 s68 s69 s70 s71 s72 s73 w) (h9 : L 9 = false) : J20 B w0 vw lv S1 S2 j i pl x l1 (fun q => if q = 9 then true else L q) s60 s61 s62 s63 s64 s65 s66 s67 s68 (.slice (some ⟨w.heap.size, 0, none⟩) 1 1) s70 s71 s72 s73 (w.alloc (.cells #[.int .i64 x.d, .int .i64 x.b, .int .i64 x.g, .int .i64 x.i] 23)) := by
  have k := h.grow ((Gr.refl w).alloc (.cells #[.int .i64 x.d, .int .i64 x.b, .int .i64 x.g, .int .i64 x.i] 23))
  have n10 : L 10 = false := by
    cases e : L 10
    · rfl
    · have := (h.c10 e).1; rw [h9] at this; cases this
  refine ⟨k.bl, k.le, k.c4, fun e => ⟨rfl, (k.c10 e).2⟩, k.m1, k.m2, k.m3, k.m5, k.m6, k.m7, k.m8, k.m11, k.m12, k.m13, k.o0, k.o4, k.o10, fun _ _ => ⟨w.heap.size, rfl, by simp, ?_, fun a b e => ?_, fun a e => ?_⟩⟩
  · intro t u hu
    exact cell_four_new w x 23 t u (by simpa [flatL] using hu)
  · have := (World.ownsRow.lt (h.o0 a b) _ e).2; omega
  · have := (World.ownsRow.lt (h.o4 a n10) _ e).2; omega
theorem J20.mark4 {w' : World} {v' : Value} (h : J20 B w0 vw lv S1 S2 j i pl x l1 L s60 s61 s62 s63 s64 s65 s66 s67 s68 s69 s70 s71 s72 s73 w) (h0 : L 0 = true) (h4 : L 4 = false) (ho : Own B 23 w' v' l1) (gb : w.grownBy w' s60.ownBlock) (hat : v'.ownBlock = s60.ownBlock ∨ v'.ownBlock = some w.heap.size) :
    J20 B w0 vw lv S1 S2 j i pl x l1 (fun q => if q = 4 then true else L q) s60 s61 s62 s63 v' s65 s66 s67 s68 s69 s70 s71 s72 s73 w' := by
  have a := h.app gb (fun q hq => (World.ownsRow.lt (h.o0 h0 h4) q hq).1)
  have n10 : L 10 = false := by
    cases e : L 10
    · rfl
    · have := (h.c10 e).2; rw [h4] at this; cases this
  refine ⟨a.1, a.2, fun _ => h0, fun e => (by have e' : L 10 = true := e; rw [n10] at e'; cases e'), h.m1, h.m2, h.m3, h.m5, h.m6, h.m7, h.m8, h.m11, h.m12, h.m13, fun _ e => (by simp at e), fun _ _ => ho, fun e => (by have e' : L 10 = true := e; rw [n10] at e'; cases e'), fun e9 _ => ?_⟩
  obtain ⟨g9, q1, q2, q3, q4, q5⟩ := h.o9 e9 n10
  have hne := q4 h0 h4
  refine ⟨g9, q1, Nat.lt_of_lt_of_le q2 gb.size, fun t u hu => gb.cell (q3 t u hu) (by rw [add_block]; exact fun e => hne e.symm), fun _ e => (by simp at e), fun _ e => ?_⟩
  rcases hat with hat | hat
  · rw [hat] at e; exact hne e
  · rw [hat] at e; simp at e; omega
theorem J20.mark10 {w' : World} {v' : Value} (h : J20 B w0 vw lv S1 S2 j i pl x l1 L s60 s61 s62 s63 s64 s65 s66 s67 s68 s69 s70 s71 s72 s73 w) (h4 : L 4 = true) (h9 : L 9 = true) (h10 : L 10 = false) (ho : Own B 23 w' v' (l1 ++ [x])) (gb : w.grownBy w' s64.ownBlock) :
    J20 B w0 vw lv S1 S2 j i pl x l1 (fun q => if q = 10 then true else L q) s60 s61 s62 s63 s64 s65 s66 s67 s68 s69 v' s71 s72 s73 w' := by
  have a := h.app gb (fun q hq => (World.ownsRow.lt (h.o4 h4 h10) q hq).1)
  exact ⟨a.1, a.2, h.c4, fun _ => ⟨h9, h4⟩, h.m1, h.m2, h.m3, h.m5, h.m6, h.m7, h.m8, h.m11, h.m12, h.m13, fun _ e => (by have e' : L 4 = false := e; rw [h4] at e'; cases e'), fun _ e => (by simp at e), fun _ => ho, fun _ e => (by simp at e)⟩

theorem wpList_app {ops : Array Oper} {rest : List Oper} {o : Oper} {a : Act} {w : World} {Q : Exit → Act → World → Prop} (hg : o.guard = none) (s y : Operand)
    (hop : o.op = .call { callee := .builtin .append, args := #[s, y], argTypes := #[33, 33] }) (vs vx : Value) (hs : a.eval s = vs) (hx : a.eval y = vx) (v' : Value) (w' : World)
    (hrun : ∀ ty, (Builtin.append_ #[33, 33] ty #[vs, vx]).run Try.prog w = .ok v' w') (h : wpList Try.prog ops Q rest (a.put o.dst v') w') : wpList Try.prog ops Q (o :: rest) a w := by
  refine wpList_plain hg fun K hK => ?_
  unfold Oper.wp execOp
  simp only [hop, resolve, invoke, builtin, Sem.run_bind, Sem.run_pure, Result.andThen_ok, List.map_toArray, List.map_cons, List.map_nil, hs, hx, hrun]
  exact hK _ _ h

theorem src_take {w : World} {g : Nat} {l : List Rk} (h : ∀ t u, (flatL l)[t]? = some u → w.cell? ((⟨g, 0, none⟩ : Addr).add t) = some u) (j : Nat) (hj : j ≤ l.length) : ∀ t u, (flatL (l.take j))[t]? = some u → w.cell? ((⟨g, 0, none⟩ : Addr).add t) = some u := by
  intro t u hu
  rw [← flatL_take l j hj, List.getElem?_take] at hu
  split at hu
  · exact h t u hu
  · cases hu
theorem src_drop {w : World} {g : Nat} {l : List Rk} (h : ∀ t u, (flatL l)[t]? = some u → w.cell? ((⟨g, 0, none⟩ : Addr).add t) = some u) (j : Nat) (hj : j ≤ l.length) : ∀ t u, (flatL (l.drop j))[t]? = some u → w.cell? ((⟨g, j * 4, none⟩ : Addr).add t) = some u := by
  intro t u hu
  rw [← flatL_drop l j hj, List.getElem?_drop] at hu
  have := h _ _ hu
  have e : (⟨g, j * 4, none⟩ : Addr).add t = ((⟨g, 0, none⟩ : Addr).add (j * 4 + t)) := by
    unfold Addr.add
    by_cases a : t = 0
    · by_cases b : j = 0
      · subst a b; rfl
      · rw [if_pos a, if_neg (by omega)]; simp [a]
    · rw [if_neg a, if_neg (by omega)]; simp
  rw [e]; exact this
theorem Own.mono {B B' t : Nat} {w : World} {v : Value} {l : List Rk} (h : Own B t w v l) (hB : B' ≤ B) : Own B' t w v l := by
  refine ⟨h.1, ?_⟩
  rcases h.2 with a | ⟨g, cap, cur, h1, h2, h3⟩
  · exact .inl a
  · exact .inr ⟨g, cap, cur, h1, Nat.le_trans hB h2, h3⟩

def I20 (B : Nat) (w0 : World) (vw lv S1 S2 : Value) (j i : Nat) (pl : Addr) (x : Rk) (l1 : List Rk) (a0 : Act) (L : Nat → Bool) (a : Act) (w : World) : Prop :=
  ∃ s60 s61 s62 s63 s64 s65 s66 s67 s68 s69 s70 s71 s72 s73, a = pt a0 s60 s61 s62 s63 s64 s65 s66 s67 s68 s69 s70 s71 s72 s73 ∧ J20 B w0 vw lv S1 S2 j i pl x l1 L s60 s61 s62 s63 s64 s65 s66 s67 s68 s69 s70 s71 s72 s73 w

end Go.Proofs.Ytpaiaoaffoeleaa
