/- The document's own seats in memory: rows of its seats; contracts of at, Last, Forget. -/
import Derived.Test.YtnmdidglfegdcaaDoorF1
import Derived.Deep.RegionHeld3
import Derived.Deep.RegionLaw
import Derived.Deep.OwnRows
import Derived.OwnWalk
namespace Go.Proofs.YtnmdidglfegdcaaDoor
open Go.RowKit Go.Lib Go.Maps
set_option linter.unusedVariables false
set_option maxRecDepth 100000
set_option maxHeartbeats 4000000

/-- A seat as the document has it. -/
structure Sa where
  id : Int
  c : Nat
  now : Bool
def zeroS : Sa := ⟨0, 0, false⟩
/-- Its cells. -/
def fld (x : Sa) (o : Nat) : Value := if o = 0 then .int .i64 x.id else if o = 1 then .int .i64 x.c else .bool x.now
def tc (T : Nat → Sa) (j : Nat) : Value := fld (T (j / 3)) (j % 3)
theorem tc_at (T : Nat → Sa) (i o : Nat) (ho : o < 3) : tc T (i * 3 + o) = fld (T i) o := by unfold tc; rw [show (i * 3 + o) / 3 = i by omega, show (i * 3 + o) % 3 = o by omega]
/-- An append whose run is known, as one step of a region that draws. -/
theorem step_append_run {P : Program} {ops : Array Oper} {o : Oper} {a : Act} {w : World} {K : Act → World → Prop} {Q : Exit → Act → World → Prop} {X : Prop}
    (hg : o.guard = none) (s x : Operand) (t : TypeId) (hop : o.op = Op.call { callee := Callee.builtin Builtin.append, args := #[s, x], argTypes := #[t, t] })
    (vs vx : Value) (hs : a.eval s = vs) (hx : a.eval x = vx) (v' : Value) (w' : World) (hr : ∀ ty, (Builtin.append_ #[t, t] ty #[vs, vx]).run P w = .ok v' w') (hK : K (a.put o.dst v') w') :
    if Region.wanted o (yielded ops a.tmps) = true then Oper.wp P o a w K Q else X := by
  have hw : Region.wanted o (yielded ops a.tmps) = true := by simp [Region.wanted, hg]
  rw [if_pos hw]
  unfold Oper.wp execOp
  simp only [hop, resolve, invoke, builtin, Sem.run_bind, Sem.run_pure, Result.andThen_ok, List.map_toArray, List.map_cons, List.map_nil, hs, hx, hr]
  exact hK
/-- The cells of a row of tasks. -/
abbrev tl (A : List Sa) : Nat → Value := tc (fun i => A.getD i zeroS)
def saL (x : Sa) : List Value := (List.range 3).map (fld x)
theorem tl_list (A : List Sa) : (List.range (A.length * 3)).map (tl A) = A.flatMap saL := by
  induction A with
  | nil => rfl
  | cons d A ih =>
    rw [List.length_cons, show (A.length + 1) * 3 = 3 + A.length * 3 by omega, List.range_add, List.map_append, List.flatMap_cons, ← ih]
    congr 1
    rw [List.map_map]
    refine List.map_congr_left (fun j hj => ?_)
    simp only [Function.comp, tl, tc]
    rw [show (3 + j) / 3 = j / 3 + 1 by omega, show (3 + j) % 3 = j % 3 by omega]
    rfl
theorem tl_append (A B : List Sa) : (List.range ((A ++ B).length * 3)).map (tl (A ++ B)) = (List.range (A.length * 3)).map (tl A) ++ (List.range (B.length * 3)).map (tl B) := by
  rw [tl_list, tl_list, tl_list, List.flatMap_append]
theorem tl_one (A : List Sa) (j : Nat) : (tl A j).oneCell' = true := by
  show (fld _ _).oneCell' = true
  unfold fld
  split
  · rfl
  · split <;> rfl
theorem info57 : ∃ i, Tryd.prog.info? 57 = some i ∧ i.size = 3 ∧ i.bytes = 24 ∧ i.zero = some (.agg #[.int .i64 0, .int .i64 0, .bool false]) := by
  have h1 : (Tryd.prog.info? 57).map (·.size) = some 3 := by kernel_rfl
  have h2 : (Tryd.prog.info? 57).map (·.bytes) = some 24 := by kernel_rfl
  have h3 : (Tryd.prog.info? 57).map (·.zero) = some (some (.agg #[.int .i64 0, .int .i64 0, .bool false])) := by kernel_rfl
  cases h : Tryd.prog.info? 57 with
  | none => rw [h] at h1; cases h1
  | some i =>
    rw [h] at h1 h2 h3
    exact ⟨i, rfl, by simpa using h1, by simpa using h2, by simpa using h3⟩
/-- What an append leaves. -/
structure ApP (w : World) (base : Nat) (v : Value) (A : List Sa) (v' : Value) (w' : World) : Prop where
  row : Row w' base 57 3 v' A.length (tl A)
  gr : w.grownBy w' v.ownBlock
  at_ : v'.ownBlock = v.ownBlock ∨ v'.ownBlock = some w.heap.size
theorem app_tk (w : World) (base : Nat) (v : Value) (A B : List Sa) (h : Row w base 57 3 v A.length (tl A)) (hb : base ≤ w.heap.size) (hl : A.length + B.length ≤ 100000) (a : Addr) (m c : Nat) (hm : m = B.length) (hc : ∀ j, j < m * 3 → w.cell? (a.add j) = some (tl B j)) :
    ∃ v' w1, (∀ ty, (Builtin.append_ #[27, 27] ty #[v, .slice (some a) m c]).run Tryd.prog w = .ok v' w1) ∧ ApP w base v (A ++ B) v' w1 := by
  subst hm
  obtain ⟨i, hi, h1, h2, h3⟩ := info57
  obtain ⟨v', w1, hr, ho, hg, ha⟩ := append_own_any (P := Tryd.prog) w base 27 27 57 i _ 3 24 Tryd.underlying27 hi h3 h1 h2 rfl (by omega) v A.length _ h a B.length c ((List.range (B.length * 3)).map (tl B)) (by simp) (fun j u hj => by
    obtain ⟨hlt, hv⟩ := List.getElem?_eq_some_iff.1 hj
    simp only [List.length_map, List.length_range] at hlt
    rw [List.getElem_map, List.getElem_range] at hv
    rw [← hv]
    exact hc j hlt) (fun u hu => by
    obtain ⟨j, _, rfl⟩ := List.mem_map.1 hu
    exact tl_one B j) (by unfold maxLen; omega) (by omega) hb
  refine ⟨v', w1, fun ty => hr, ?_, hg, ha⟩
  unfold Row
  rw [tl_append, List.length_append]
  exact ho
theorem app_tk_none (w : World) (base : Nat) (v : Value) (A : List Sa) (h : Row w base 57 3 v A.length (tl A)) :
    ∃ v' w1, (∀ ty, (Builtin.append_ #[27, 27] ty #[v, .slice none 0 0]).run Tryd.prog w = .ok v' w1) ∧ ApP w base v A v' w1 := by
  obtain ⟨i, hi, h1, h2, h3⟩ := info57
  exact ⟨v, w, fun ty => run_append_owned_none w base 27 ty 57 i 3 Tryd.underlying27 hi v A.length _ h, h, ⟨rfl, rfl, rfl, Nat.le_refl _, fun _ _ _ => rfl⟩, .inl rfl⟩
/-- A row so far; nothing of W has turned. -/
structure Bd (W : World) (A : List Sa) (v : Value) (X : World) : Prop where
  row : Row X W.heap.size 57 3 v A.length (tl A)
  gr : Gr W X
theorem bd_start (W : World) : Bd W [] (.slice none 0 0) W := ⟨World.ownsRow_nil _ _ _ _, Ke.refl _ _⟩
theorem Bd.next {W X X1 : World} {A : List Sa} {v : Value} (h : Bd W A v X) (g : Gr X X1) : Bd W A v X1 := ⟨Row.keep h.row (fun k hk => g.block k (Row.lt h.row hk).2 (fun q => q)), h.gr.trans g⟩
theorem bd_of {W X X1 : World} {A B : List Sa} {v v' : Value} (h : Bd W B v X) (q : ApP X W.heap.size v A v' X1) : Bd W A v' X1 := by
  refine ⟨q.row, ?_⟩
  have k : Ke (fun j => W.heap.size ≤ j) X X1 := (Ke.refl _ X).grown q.gr (fun j e => .inl (Row.lt h.row e).1)
  exact ⟨k.os.trans h.gr.os, k.tape.trans h.gr.tape, k.output.trans h.gr.output, Nat.le_trans h.gr.size k.size, fun j hj hn => (k.block j (Nat.lt_of_lt_of_le hj h.gr.size) (fun z => by omega)).trans (h.gr.block j hj hn)⟩
/-- One task, out of a box, behind it. -/
theorem bd_one {W X : World} {A : List Sa} {v : Value} (h : Bd W A v X) (hA : A.length ≤ 20000) (x : Sa) (b : Nat) (hX : ∀ o, o < 3 → X.cell? ⟨b, o, none⟩ = some (fld x o)) :
    ∃ v1 X1, (∀ ty, (Builtin.append_ #[27, 27] ty #[v, .slice (some ⟨b, 0, none⟩) 1 1]).run Tryd.prog X = .ok v1 X1) ∧ Bd W (A ++ [x]) v1 X1 := by
  obtain ⟨v1, X1, hr, h1⟩ := app_tk X W.heap.size v A [x] h.row h.gr.size (by simp; omega) ⟨b, 0, none⟩ 1 1 rfl (fun j hj => by
    have e : (⟨b, 0, none⟩ : Addr).add j = ⟨b, j, none⟩ := by unfold Addr.add; split <;> simp_all
    rw [e, hX j (by omega)]
    show some (fld x j) = some (fld ([x].getD (j / 3) zeroS) (j % 3))
    rw [show j / 3 = 0 by omega, show j % 3 = j by omega]
    rfl)
  exact ⟨v1, X1, hr, bd_of h h1⟩
/-- A part of a row, behind it. -/
theorem bd_part {W X : World} {base g cap : Nat} {S C : List Sa} {v : Value} (m : Row W base 57 3 (.slice (some ⟨g, 0, none⟩) S.length cap) S.length (tl S)) (h : Bd W C v X) (hC : C.length + S.length ≤ 50000) (A2 : Addr) (k c lo : Nat) (hk : lo + k ≤ S.length) (hA : ∀ j, j < k * 3 → A2.add j = ⟨g, lo * 3 + j, none⟩) :
    ∃ v1 X1, (∀ ty, (Builtin.append_ #[27, 27] ty #[v, .slice (some A2) k c]).run Tryd.prog X = .ok v1 X1) ∧ Bd W (C ++ (S.drop lo).take k) v1 X1 := by
  obtain ⟨v1, X1, hr, h1⟩ := app_tk X W.heap.size v C ((S.drop lo).take k) h.row h.gr.size (by simp; omega) A2 k c (by simp; omega) (fun j hj => by
    rw [hA j hj]
    refine (gcell h.gr (Row.cell m (lo * 3 + j) (by omega))).trans ?_
    show some (fld (S.getD ((lo * 3 + j) / 3) zeroS) ((lo * 3 + j) % 3)) = some (fld (((S.drop lo).take k).getD (j / 3) zeroS) (j % 3))
    rw [show (lo * 3 + j) / 3 = lo + j / 3 by omega, show (lo * 3 + j) % 3 = j % 3 by omega, List.getD_eq_getElem?_getD, List.getD_eq_getElem?_getD, List.getElem?_take_of_lt (by omega), List.getElem?_drop])
  exact ⟨v1, X1, hr, bd_of h h1⟩
/-- Where the rest of a slice begins. -/
theorem slice_at (g cap k n : Nat) (hk : k ≤ n) (hn : n ≤ cap) : ∃ A2 : Addr, (if cap = k then some (⟨g, 0, none⟩ : Addr) else some ⟨g, k * 3, none⟩) = some A2 ∧ ∀ j, j < (n - k) * 3 → A2.add j = ⟨g, k * 3 + j, none⟩ := by
  by_cases e : cap = k
  · refine ⟨⟨g, 0, none⟩, by simp [e], fun t ht => ?_⟩
    have : n - k = 0 := by omega
    rw [this] at ht; omega
  · refine ⟨⟨g, k * 3, none⟩, by simp [e], fun t ht => ?_⟩
    unfold Addr.add; split <;> simp_all
/-- Where an id is. -/
def atI (S : List Sa) (i : Int) : Option Nat := S.findIdx? fun x => decide (x.id = i)
def atV (S : List Sa) (i : Int) : Int := match atI S i with | some k => (k : Int) | none => -1
/-- The document's jobs at block p. -/
structure Rf (w : World) (base p : Nat) (n : Nat) (v : Value) (S : List Sa) : Prop where
  bp : base ≤ p
  c0 : w.cell? ⟨p, 0, none⟩ = some (.int .i64 n)
  c1 : w.cell? ⟨p, 1, none⟩ = some v
  fz : ∀ o, w.frozen? ⟨p, o, none⟩ = false
  row : Row w base 57 3 v S.length (tc (fun i => S.getD i zeroS))
  vp : v.ownBlock ≠ some p
  ln : S.length ≤ 20000
theorem Rf.form {w : World} {base p n : Nat} {v : Value} {S : List Sa} (h : Rf w base p n v S) : ∃ xa ca, v = .slice xa S.length ca := by
  rcases Row.shape h.row with ⟨rfl, h0⟩ | ⟨g, cap, rfl, _⟩
  · exact ⟨none, 0, by rw [h0]⟩
  · exact ⟨_, _, rfl⟩
theorem at_any {w : World} {base p n : Nat} {v : Value} {S : List Sa} (h : Rf w base p n v S) (i : Int) : Calls Tryd.prog 17 #[.pointer (some ⟨p, 0, none⟩), .int .i64 i] w fun e w' => e = .returned (.int .i64 (atV S i)) ∧ w' = w := by
  have c1 := h.c1
  have ln := h.ln
  have HR := Lib.hid h.row
  obtain ⟨xa, ca, rfl⟩ := h.form
  obtain ⟨N, hN⟩ : ∃ N, N = S.length := ⟨_, rfl⟩
  rw [← hN] at c1 ln HR
  have HN := Lib.hid hN
  clear h hN
  go_enter Tryd.func17, Tryd.ntmps17
  go_wp2_with fail
  go_loopg [5] N (fun kx s5 wr => ∃ k : Nat, s5 = .int .i64 k ∧ k ≤ N ∧ N - k ≤ kx ∧ wr = w ∧ Aside (∀ j, j < k → (S.getD j zeroS).id ≠ i))
  case atStart => exact ⟨0, rfl, by omega, by omega, rfl, fun j hj => by omega⟩
  case round =>
    obtain ⟨k, rfl, hk, hkx, rfl, HI⟩ := hrel
    by_cases hlt : k < N
    · have hltz : (k : Int) < (N : Int) := by omega
      have row := HR.out
      obtain ⟨g, cap, hv, _⟩ := Row.form row (by omega)
      cases hv
      have kc := row.cell (k * 3) (by omega)
      rw [show tc (fun i => S.getD i zeroS) (k * 3) = fld (S.getD k zeroS) 0 from tc_at _ k 0 (by omega)] at kc
      simp only [fld] at kc
      obtain ⟨y, hy⟩ : ∃ y, (S.getD k zeroS).id = y := ⟨_, rfl⟩
      rw [hy] at kc
      have HY := Lib.hid hy
      clear row hy
      by_cases he : y = i
      · have d : (y == i) = true := by simp [he]
        have HE := Lib.hid he
        clear he
        go_wp2
        go_ret
        refine ⟨?_, rfl⟩
        have e : atI S i = some k := by
          unfold atI
          rw [List.findIdx?_eq_some_iff_getElem]
          refine ⟨by rw [← HN.out]; exact hlt, ?_, fun j hj => ?_⟩
          · have := HY.out
            rw [List.getD_eq_getElem?_getD, List.getElem?_eq_getElem (by rw [← HN.out]; exact hlt)] at this
            simp at this
            simp [this, HE.out]
          · have := HI.out j hj
            rw [List.getD_eq_getElem?_getD, List.getElem?_eq_getElem (by have := HN.out; omega)] at this
            simpa using this
        unfold atV
        rw [e]
        rfl
      · have d : (y == i) = false := by simp [he]
        have HE := Lib.hid he
        clear he
        go_wp2_with fail
        go_roundg (N - (k + 1))
        case measure => omega
        case rel => exact ⟨k + 1, by go_num, by omega, Nat.le_refl _, rfl, fun j hj => by
          by_cases q : j = k
          · subst q; rw [HY.out]; exact HE.out
          · exact HI.out j (by omega)⟩
    · have hltz : ¬ (k : Int) < (N : Int) := by omega
      obtain rfl : N = k := by omega
      go_wp2
      go_ret
      refine ⟨?_, rfl⟩
      have e : atI S i = none := by
        unfold atI
        rw [List.findIdx?_eq_none_iff]
        intro x hx
        obtain ⟨j, hj, rfl⟩ := List.mem_iff_getElem.1 hx
        have := HI.out j (by rw [HN.out]; exact hj)
        rw [List.getD_eq_getElem?_getD, List.getElem?_eq_getElem hj] at this
        simpa using this
      unfold atV
      rw [e]
      rfl
section
variable {w w' : World} {base p n g cap : Nat} {v : Value} {S : List Sa}
theorem Rf.gr (h : Rf w base p n v S) (G : Gr w w') : Rf w' base p n v S :=
  ⟨h.bp, gcell G h.c0, gcell G h.c1, fun o => (G.frozen (p := ⟨p, o, none⟩) (show p < w.heap.size from lt_of_cell h.c0) (fun q => q)).trans (h.fz o), h.row.keep (fun g hg => G.block g (Row.lt h.row hg).2 (fun q => q)), h.vp, h.ln⟩
/-- A row built anew, stored. -/
theorem Rf.put {X : World} {B : List Sa} {v' : Value} (h : Rf w base p n v S) (b : Bd w B v' X) (hB : B.length ≤ 20000) (hbs : base ≤ w.heap.size) : Rf (X.setCell ⟨p, 1, none⟩ v') base p n v' B ∧ Ke (fun j => j = p) w (X.setCell ⟨p, 1, none⟩ v') := by
  have lp := lt_of_cell h.c0
  have g' := h.gr b.gr
  have hne : v'.ownBlock ≠ some p := fun e => by
    have := (Row.lt b.row e).1
    have : p < w.heap.size := lp
    omega
  refine ⟨⟨h.bp, by simp [go_sem, g'.c0], by simp [go_sem, g'.c1], fun o => by simp [go_sem, g'.fz], ?_, hne, hB⟩, Ke.set (F := fun j => j = p) (p := ⟨p, 1, none⟩) (Ke.of_gr b.gr) (.inl rfl) v'⟩
  have r := Row.keep (w' := X.setCell ⟨p, 1, none⟩ v') b.row (fun j hj => blk_other X p 1 v' j (fun e => hne (e ▸ hj)))
  refine ⟨r.1, ?_⟩
  rcases r.2 with q | ⟨g, cap, cur, e, hb, rest⟩
  · exact .inl q
  · exact .inr ⟨g, cap, cur, e, Nat.le_trans hbs hb, rest⟩
end
section
variable {ops : Array Oper} {o : Oper} {a : Act} {w : World} {K : Act → World → Prop} {Q : Exit → Act → World → Prop} {Y : Prop}
/-- A part of a row behind another, as a step of a region that draws. -/
theorem step_part (hg : o.guard = none) (s x : Operand) (hop : o.op = Op.call { callee := Callee.builtin Builtin.append, args := #[s, x], argTypes := #[27, 27] }) {W : World} {base g cap N : Nat} {S C : List Sa} {v : Value} (m : Row W base 57 3 (.slice (some ⟨g, 0, none⟩) N cap) N (tl S)) (hN : N = S.length) (lo k : Nat) (hk : lo + k ≤ N) (h : Bd W C v w) (hC : C.length + N ≤ 50000) (A2 : Addr) (c : Nat) (hA : ∀ j, j < k * 3 → A2.add j = ⟨g, lo * 3 + j, none⟩)
    (hs : a.eval s = v) (hx : a.eval x = .slice (some A2) k c) (hK : ∀ v' w', Bd W (C ++ (S.drop lo).take k) v' w' → K (a.put o.dst v') w') :
    if Region.wanted o (yielded ops a.tmps) = true then Oper.wp Tryd.prog o a w K Q else Y := by
  subst hN
  obtain ⟨v', w', h1, h2⟩ := bd_part m h hC A2 k c lo hk hA
  exact step_append_run hg s x 27 hop _ _ hs hx v' w' h1 (hK v' w' h2)
end
section
variable {w w' : World} {base p n g cap : Nat} {v : Value} {S : List Sa}
theorem Bd.form {W X : World} {A : List Sa} {v : Value} (h : Bd W A v X) : ∃ xa m ca, v = .slice xa m ca := by
  rcases Row.shape h.row with ⟨rfl, h0⟩ | ⟨g, cap, rfl, _⟩
  · exact ⟨_, _, _, rfl⟩
  · exact ⟨_, _, _, rfl⟩
theorem parts_erase (S : List Sa) {k q N : Nat} (hq : q = k + 1) (hN : N = S.length) : [] ++ (S.drop 0).take k ++ (S.drop q).take (N - q) = S.eraseIdx k := by
  subst hq hN
  rw [List.nil_append, List.drop_zero, List.eraseIdx_eq_take_drop_succ]
  congr 1
  exact List.take_of_length_le (by simp)
end
end Go.Proofs.YtnmdidglfegdcaaDoor
