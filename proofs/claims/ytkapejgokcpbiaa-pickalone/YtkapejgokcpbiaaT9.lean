/- pick: the document's tasks in memory; contracts of Rows and twice. -/
import Derived.Test.YtkapejgokcpbiaaT8
namespace Go.Proofs.Ytkapejgokcpbiaa
open Go.RowKit Go.Lib
set_option linter.unusedVariables false
set_option maxRecDepth 100000
set_option maxHeartbeats 2000000

/-- The cells of a task. -/
def tkCells (x : Tk) : List Value := [.int .i64 x.id, .int .i64 x.e, .int .i64 x.p, .bool x.sp, .bool x.le, .bool x.wa, .bool x.ac, .int .i64 x.r, .int .i64 x.g, .bool x.dn, .int .i64 x.ct]
theorem tkCells_at (x : Tk) {j : Nat} (hj : j < 11) : (tkCells x)[j]? = some (fld x j) := by
  rcases (show j = 0 ∨ j = 1 ∨ j = 2 ∨ j = 3 ∨ j = 4 ∨ j = 5 ∨ j = 6 ∨ j = 7 ∨ j = 8 ∨ j = 9 ∨ j = 10 by omega) with rfl | rfl | rfl | rfl | rfl | rfl | rfl | rfl | rfl | rfl | rfl <;> rfl
abbrev TO (x : Tk) : Obj := .cells #[.int .i64 x.id, .int .i64 x.e, .int .i64 x.p, .bool x.sp, .bool x.le, .bool x.wa, .bool x.ac, .int .i64 x.r, .int .i64 x.g, .bool x.dn, .int .i64 x.ct] 27
/-- A slice of tasks that can be read. -/
structure TsIn (w : World) (v : Value) (N : Nat) (l : Nat → Tk) : Prop where
  ex : ∃ a ca, v = .slice a N ca ∧ (N = 0 ∨ ∃ b off, a = some ⟨b, off, none⟩ ∧ ∀ i, i < N → ∀ j, j < 11 → w.cell? ⟨b, off + i * 11 + j, none⟩ = some (fld (l i) j))
theorem TsIn.gr {w w' : World} {v : Value} {N : Nat} {l : Nat → Tk} (h : TsIn w v N l) (g : Gr w w') : TsIn w' v N l := by
  obtain ⟨a, ca, rfl, q⟩ := h.ex
  refine ⟨a, ca, rfl, ?_⟩
  rcases q with q | ⟨b, off, rfl, q⟩
  · exact .inl q
  · exact .inr ⟨b, off, rfl, fun i hi j hj => gcell g (q i hi j hj)⟩
/-- One of them. -/
structure TkAt (w : World) (b off : Nat) (x : Tk) : Prop where
  c0 : w.cell? ⟨b, off, none⟩ = some (.int .i64 x.id)
  c1 : w.cell? ⟨b, off + 1, none⟩ = some (.int .i64 x.e)
  c2 : w.cell? ⟨b, off + 2, none⟩ = some (.int .i64 x.p)
  c3 : w.cell? ⟨b, off + 3, none⟩ = some (.bool x.sp)
  c4 : w.cell? ⟨b, off + 4, none⟩ = some (.bool x.le)
  c5 : w.cell? ⟨b, off + 5, none⟩ = some (.bool x.wa)
  c6 : w.cell? ⟨b, off + 6, none⟩ = some (.bool x.ac)
  c7 : w.cell? ⟨b, off + 7, none⟩ = some (.int .i64 x.r)
  c8 : w.cell? ⟨b, off + 8, none⟩ = some (.int .i64 x.g)
  c9 : w.cell? ⟨b, off + 9, none⟩ = some (.bool x.dn)
  c10 : w.cell? ⟨b, off + 10, none⟩ = some (.int .i64 x.ct)
theorem TkAt.of {w : World} {b off : Nat} {x : Tk} (q : ∀ j, j < 11 → w.cell? ⟨b, off + j, none⟩ = some (fld x j)) : TkAt w b off x :=
  ⟨q 0 (by omega), q 1 (by omega), q 2 (by omega), q 3 (by omega), q 4 (by omega), q 5 (by omega), q 6 (by omega), q 7 (by omega), q 8 (by omega), q 9 (by omega), q 10 (by omega)⟩
theorem TkAt.gr {w w' : World} {b off : Nat} {x : Tk} (h : TkAt w b off x) (g : Gr w w') : TkAt w' b off x :=
  ⟨gcell g h.c0, gcell g h.c1, gcell g h.c2, gcell g h.c3, gcell g h.c4, gcell g h.c5, gcell g h.c6, gcell g h.c7, gcell g h.c8, gcell g h.c9, gcell g h.c10⟩
theorem TsIn.form {w : World} {v : Value} {N : Nat} {l : Nat → Tk} (h : TsIn w v N l) : ∃ a ca, v = .slice a N ca := by
  obtain ⟨a, ca, rfl, _⟩ := h.ex
  exact ⟨a, ca, rfl⟩
theorem TsIn.at_ {w : World} {v : Value} {N : Nat} {l : Nat → Tk} (h : TsIn w v N l) (h0 : 0 < N) : ∃ b off ca, v = .slice (some ⟨b, off, none⟩) N ca ∧ ∀ i, i < N → TkAt w b (off + i * 11) (l i) := by
  obtain ⟨a, ca, rfl, q⟩ := h.ex
  rcases q with q | ⟨b, off, rfl, q⟩
  · omega
  · exact ⟨b, off, ca, rfl, fun i hi => TkAt.of (fun j hj => q i hi j hj)⟩

theorem info27 : ∃ i, Try.prog.info? 27 = some i ∧ i.size = 11 ∧ i.bytes = 64 ∧ i.zero = some (.agg #[.int .i64 0, .int .i64 0, .int .i64 0, .bool false, .bool false, .bool false, .bool false, .int .i64 0, .int .i64 0, .bool false, .int .i64 0]) := by
  have h1 : (Try.prog.info? 27).map (·.size) = some 11 := by kernel_rfl
  have h2 : (Try.prog.info? 27).map (·.bytes) = some 64 := by kernel_rfl
  have h3 : (Try.prog.info? 27).map (·.zero) = some (some (.agg #[.int .i64 0, .int .i64 0, .int .i64 0, .bool false, .bool false, .bool false, .bool false, .int .i64 0, .int .i64 0, .bool false, .int .i64 0])) := by kernel_rfl
  cases h : Try.prog.info? 27 with
  | none => rw [h] at h1; cases h1
  | some i =>
    rw [h] at h1 h2 h3
    exact ⟨i, rfl, by simpa using h1, by simpa using h2, by simpa using h3⟩
/-- One task more. -/
theorem task_more {w : World} {base : Nat} {v : Value} {m : Nat} {l : Nat → Tk} (h : Row w base 27 11 v m (tc l)) (hb : base ≤ w.heap.size) (hm : m ≤ 70000) :
    ∃ v' w1, (∀ ty, (Builtin.append_ #[39, 39] ty #[v, .slice (some ⟨w.heap.size, 0, none⟩) 1 1]).run Try.prog (w.alloc (TO (l m))) = .ok v' w1) ∧ (w.alloc (TO (l m))).grownBy w1 v.ownBlock ∧ Row w1 base 27 11 v' (m + 1) (tc l) := by
  obtain ⟨i, hi, h1, h2, h3⟩ := info27
  have h' : Row (w.alloc (TO (l m))) base 27 11 v m (tc l) := h.keep (fun g hg => Below.heap_alloc w _ g (h.lt hg).2)
  have blk : (w.alloc (TO (l m))).heap[w.heap.size]? = some (.cells (tkCells (l m)).toArray 27 (0, 0)) := heap_alloc_new w _
  obtain ⟨v', w1, hr, ho, hg, ha⟩ := append_own_at (P := Try.prog) (w.alloc (TO (l m))) base 39 39 27 i _ 11 64 Try.underlying39 hi h3 h1 h2 rfl (by omega) v m _ h' ⟨w.heap.size, 0, none⟩ 1 1 (tkCells (l m)) (by omega) rfl (fun j x hj => by
    have e : (⟨w.heap.size, 0, none⟩ : Addr).add j = ⟨w.heap.size, j, none⟩ := by unfold Addr.add; split <;> simp_all
    rw [e]
    simp only [World.cell?, blk]
    simpa using hj) (by simp [Value.oneCell', tkCells]) (by unfold maxLen; omega) (by omega) (by simp; omega)
  refine ⟨v', w1, fun ty => hr, hg, ?_⟩
  unfold Row
  rw [show (List.range ((m + 1) * 11)).map (tc l) = (List.range (m * 11)).map (tc l) ++ tkCells (l m) from ?_]
  · exact ho
  · refine List.ext_getElem (by simp [tkCells]; omega) fun j h1 h2 => ?_
    have hj : j < (m + 1) * 11 := by simpa using h1
    rw [List.getElem_append]
    split
    · simp
    · rename_i q
      simp only [List.length_map, List.length_range] at q
      have e := tkCells_at (l m) (j := j - m * 11) (by omega)
      obtain ⟨_, e2⟩ := List.getElem?_eq_some_iff.1 e
      simp only [List.length_map, List.length_range, List.getElem_map, List.getElem_range]
      rw [e2, show j = m * 11 + (j - m * 11) by omega, tc_at _ _ _ (by omega), show m * 11 + (j - m * 11) - m * 11 = j - m * 11 by omega]

/-- What Rows leaves. -/
def RowsP (w : World) (N : Nat) (l : Nat → Tk) (e : Ending) (w' : World) : Prop := ∃ u, e = .returned u ∧ Row w' w.heap.size 27 11 u N (tc l) ∧ Gr w w'
theorem rows_any {w : World} {v : Value} {N : Nat} {l : Nat → Tk} (h : TsIn w v N l) (hN : N ≤ 65536) : Calls Try.prog 16 #[v] w fun e w' => RowsP w N l e w' := by
  have H := Lib.hid h
  obtain ⟨a, ca, rfl⟩ := h.form
  clear h
  go_enter Try.func16, Try.ntmps16
  go_wp2_with fail
  go_loopg [3, 4] N (fun kx s3 s4 wr => ∃ k : Nat, s4 = .int .i64 k ∧ k ≤ N ∧ N - k ≤ kx ∧ Aside (Row wr w.heap.size 27 11 s3 k (tc l) ∧ Gr w wr))
  case atStart => exact ⟨0, rfl, by omega, by omega, World.ownsRow_nil _ _ _ _, Ke.refl _ _⟩
  case round =>
    obtain ⟨k, rfl, hk, hkx, HI⟩ := hrel
    obtain ⟨row, G⟩ := HI.out
    by_cases hlt : k < N
    · have hltz : (k : Int) < (N : Int) := by omega
      have T := H.out.gr G
      obtain ⟨b, off, ca', hv, at_⟩ := T.at_ (by omega)
      cases hv
      obtain ⟨q0, q1, q2, q3, q4, q5, q6, q7, q8, q9, q10⟩ := at_ k hlt
      have ROW := Lib.hid row
      have GG := Lib.hid G
      have MD := Lib.hid (fun W => made12 (l k) W)
      obtain ⟨t, ht⟩ : ∃ t, t = l k := ⟨_, rfl⟩
      rw [← ht] at q0 q1 q2 q3 q4 q5 q6 q7 q8 q9 q10 MD
      have HT := Lib.hid ht
      obtain ⟨tid, te, tp, tsp, tle, twa, tac, tr, tg, tdn, tct⟩ := t
      simp only at q0 q1 q2 q3 q4 q5 q6 q7 q8 q9 q10
      clear at_ T row G HI ht
      go_wp2_with fail
      refine (MD.out _).mono ?_
      rintro e w1 ⟨rfl, g1⟩
      obtain ⟨v', w2, hr, hg, row2⟩ := task_more (ROW.out.keep (w' := w1) (fun g hg => g1.block g (Row.lt ROW.out hg).2 (fun q => q))) (Nat.le_trans GG.out.size g1.size) (by omega)
      rw [← HT.out] at hr hg
      have K2 : Ke (fun j => w.heap.size ≤ j) w1 w2 := ((Ke.refl _ w1).alloc _).grown hg (fun j hj => .inl (Row.lt ROW.out hj).1)
      have G2 := Lib.hid ((GG.out.trans g1).comp K2 (fun j hj q => by omega))
      have R2 := Lib.hid row2
      have HR := Lib.hid (hr 39)
      clear hr hg row2 K2 g1 MD
      go_wp2_with (at_builtin; refine Lib.wpList_append_run _ rfl _ _ 39 39 rfl _ _ rfl rfl _ _ HR.out ?_)
      go_roundg (N - (k + 1))
      case measure => omega
      case rel => exact ⟨k + 1, by go_num, by omega, Nat.le_refl _, R2.out, G2.out⟩
    · have hltz : ¬ (k : Int) < (N : Int) := by omega
      obtain rfl : N = k := by omega
      go_wp2
      go_ret
      exact ⟨_, rfl, row, G⟩

theorem twice_any {w : World} {v : Value} {N : Nat} {l : Nat → Tk} (h : TsIn w v N l) (hN : N ≤ 65536) (i : Nat) (hi : i < N) : Calls Try.prog 26 #[v, .int .i64 i] w fun e w' => e = .returned (.bool (twB l i)) ∧ Gr w w' := by
  have H := Lib.hid h
  obtain ⟨b, off, ca, rfl, _⟩ := h.at_ (by omega)
  clear h
  go_enter Try.func26, Try.ntmps26
  go_wp2_with fail
  go_loopg [5] i (fun kx s5 wr => ∃ k : Nat, s5 = .int .i64 k ∧ k ≤ i ∧ i - k ≤ kx ∧ Aside ((∀ j, j < k → (l j).id ≠ (l i).id) ∧ Gr w wr))
  case atStart => exact ⟨0, rfl, by omega, by omega, fun j hj => by omega, Ke.refl _ _⟩
  case round =>
    obtain ⟨k, rfl, hk, hkx, HI⟩ := hrel
    by_cases hlt : k < i
    · have hltz : (k : Int) < (i : Int) := by omega
      have hkN : (k : Int) < (N : Int) := by omega
      have hiN : (i : Int) < (N : Int) := by omega
      obtain ⟨b', off', ca', hv, at_⟩ := (H.out.gr HI.out.2).at_ (by omega)
      cases hv
      have kq := gw_cell (at_ k (by omega)).c0
      have iq := gw_cell (at_ i hi).c0
      obtain ⟨x, hx⟩ : ∃ x, (l k).id = x := ⟨_, rfl⟩
      obtain ⟨y, hy⟩ : ∃ y, (l i).id = y := ⟨_, rfl⟩
      rw [hx] at kq
      rw [hy] at iq
      obtain ⟨d, hd⟩ : ∃ d, (x == y) = d := ⟨_, rfl⟩
      have HX := Lib.hid hx
      have HY := Lib.hid hy
      have HD := Lib.hid hd
      clear at_ hx hy
      go_upto_region 4 with fail
      have hne : Nonempty (GW wr) := ⟨⟨wr, Ke.refl _ _⟩⟩
      have hself := @gw_self wr
      have hself' : ∀ p : GW wr, ∃ q : GW wr, q.W = p.W := fun p => ⟨p, rfl⟩
      refine wp_region_gw (by first | assumption | kernel_rfl) (by kernel_rfl) ?_
      repeat (go_big_quiet_step (fail))
      refine wpQuiet_nil ?_
      intro _ hw'
      obtain ⟨pp, hw''⟩ := hw'
      subst hw''
      have G2 := Lib.hid (HI.out.2.trans pp.gr)
      clear kq iq hne hself hself'
      generalize pp.W = w2 at *
      clear pp
      cases d
      · go_wp2_with fail
        go_roundg (i - (k + 1))
        case measure => omega
        case rel => exact ⟨k + 1, by go_num, by omega, Nat.le_refl _, fun j hj => by
          by_cases q : j = k
          · subst q; rw [HX.out, HY.out]; simpa using HD.out
          · exact HI.out.1 j (by omega), G2.out⟩
      · have e : twB l i = true := twB_iff.2 ⟨k, hlt, by rw [HX.out, HY.out]; simpa using HD.out⟩
        go_wp2
        go_ret
        exact ⟨ret_bool' (a := true) e.symm, G2.out⟩
    · have hltz : ¬ (k : Int) < (i : Int) := by omega
      obtain rfl : i = k := by omega
      have e : twB l i = false := by
        cases z : twB l i
        · rfl
        · obtain ⟨j, h1, h2⟩ := twB_iff.1 z
          exact absurd h2 (HI.out.1 j h1)
      go_wp2
      go_ret
      exact ⟨rfl, HI.out.2⟩
end Go.Proofs.Ytkapejgokcpbiaa
