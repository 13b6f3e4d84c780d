/- Jobs: contracts of Join and Task by the list of tasks. -/
import Derived.Test.YtlpjojegdnconaaDoorQ7
namespace Go.Proofs.YtlpjojegdnconaaDoor
open Go.RowKit Go.Lib Go.Maps
open Ca (Ke Gr Sv Row Cl Ky Bs blk_other)
set_option linter.unusedVariables false
set_option maxRecDepth 100000
set_option maxHeartbeats 2000000
/-- A task as the program has it. -/
abbrev aggT (x : Tk) : Value := .agg #[.int .i64 x.id, .int .i64 x.e, .int .i64 x.p, .bool x.sp, .bool x.le, .bool x.wa, .bool x.ac, .int .i64 x.r, .int .i64 x.g, .bool x.dn, .int .i64 x.ct]
/-- A box filled. -/
abbrev putB (W : World) (B : Nat) (x : Tk) : World := ((((((((((W.setCell ⟨B, 0, none⟩ (.int .i64 x.id)).setCell ⟨B, 1, none⟩ (.int .i64 x.e)).setCell ⟨B, 2, none⟩ (.int .i64 x.p)).setCell ⟨B, 3, none⟩ (.bool x.sp)).setCell ⟨B, 4, none⟩ (.bool x.le)).setCell ⟨B, 5, none⟩ (.bool x.wa)).setCell ⟨B, 6, none⟩ (.bool x.ac)).setCell ⟨B, 7, none⟩ (.int .i64 x.r)).setCell ⟨B, 8, none⟩ (.int .i64 x.g)).setCell ⟨B, 9, none⟩ (.bool x.dn)).setCell ⟨B, 10, none⟩ (.int .i64 x.ct)
theorem box_new (w : World) : Row (w.alloc zTO) w.heap.size 49 11 (.slice (some ⟨w.heap.size, 0, none⟩) 1 1) 1 (tc (fun _ => zeroT)) := by
  have blk : (w.alloc zTO).heap[w.heap.size]? = some (.cells zTL.toArray 49 (0, 0)) := heap_alloc_new w _
  exact ⟨by simp, .inr ⟨w.heap.size, 1, _, rfl, Nat.le_refl _, blk, by omega, by unfold maxLen; omega, by simp, rfl⟩⟩
theorem box_put {W : World} {B base : Nat} {T : Nat → Tk} (h : Row W base 49 11 (.slice (some ⟨B, 0, none⟩) 1 1) 1 (tc T)) (x : Tk) : Row (putB W B x) base 49 11 (.slice (some ⟨B, 0, none⟩) 1 1) 1 (tc (upd T 0 x)) := by
  have r := (((((((((((h.set 0 (.int .i64 x.id)).set 1 (.int .i64 x.e)).set 2 (.int .i64 x.p)).set 3 (.bool x.sp)).set 4 (.bool x.le)).set 5 (.bool x.wa)).set 6 (.bool x.ac)).set 7 (.int .i64 x.r)).set 8 (.int .i64 x.g)).set 9 (.bool x.dn)).set 10 (.int .i64 x.ct))
  have e := tc_set11 T 0 x
  simp only [fld, Nat.zero_mul, Nat.zero_add] at e
  rw [← e] at r
  exact r
theorem box_ke {w W : World} {B : Nat} {F : Nat → Prop} (k : Ke F w W) (hB : w.heap.size ≤ B) (x : Tk) : Ke F w (putB W B x) := (((((((((((k.set (p := ⟨B, 0, none⟩) (.inr hB) (.int .i64 x.id)).set (p := ⟨B, 1, none⟩) (.inr hB) (.int .i64 x.e)).set (p := ⟨B, 2, none⟩) (.inr hB) (.int .i64 x.p)).set (p := ⟨B, 3, none⟩) (.inr hB) (.bool x.sp)).set (p := ⟨B, 4, none⟩) (.inr hB) (.bool x.le)).set (p := ⟨B, 5, none⟩) (.inr hB) (.bool x.wa)).set (p := ⟨B, 6, none⟩) (.inr hB) (.bool x.ac)).set (p := ⟨B, 7, none⟩) (.inr hB) (.int .i64 x.r)).set (p := ⟨B, 8, none⟩) (.inr hB) (.int .i64 x.g)).set (p := ⟨B, 9, none⟩) (.inr hB) (.bool x.dn)).set (p := ⟨B, 10, none⟩) (.inr hB) (.int .i64 x.ct))
theorem box_cells {W : World} {B base : Nat} {T : Nat → Tk} (h : Row W base 49 11 (.slice (some ⟨B, 0, none⟩) 1 1) 1 (tc T)) : W.cell? ⟨B, 0, none⟩ = some (.int .i64 (T 0).id) ∧ W.cell? ⟨B, 1, none⟩ = some (.int .i64 (T 0).e) ∧ W.cell? ⟨B, 2, none⟩ = some (.int .i64 (T 0).p) ∧ W.cell? ⟨B, 3, none⟩ = some (.bool (T 0).sp) ∧ W.cell? ⟨B, 4, none⟩ = some (.bool (T 0).le) ∧ W.cell? ⟨B, 5, none⟩ = some (.bool (T 0).wa) ∧ W.cell? ⟨B, 6, none⟩ = some (.bool (T 0).ac) ∧ W.cell? ⟨B, 7, none⟩ = some (.int .i64 (T 0).r) ∧ W.cell? ⟨B, 8, none⟩ = some (.int .i64 (T 0).g) ∧ W.cell? ⟨B, 9, none⟩ = some (.bool (T 0).dn) ∧ W.cell? ⟨B, 10, none⟩ = some (.int .i64 (T 0).ct) :=
  ⟨h.cell 0 (by omega), h.cell 1 (by omega), h.cell 2 (by omega), h.cell 3 (by omega), h.cell 4 (by omega), h.cell 5 (by omega), h.cell 6 (by omega), h.cell 7 (by omega), h.cell 8 (by omega), h.cell 9 (by omega), h.cell 10 (by omega)⟩

section
variable {w w1 : World} {base p n c g bm : Nat} {v v' : Value} {m : Nat} {A A' : Nat → Option Int} {T T' : Nat → Tk} {D D' : DataW Unit} {Fc : Nat → Prop} {L : List Ky} {q cap : Nat} {S : List Tk} {F : Nat → Prop}
theorem join_jb (h : Jb w base p n c F S) (hb : base ≤ w.heap.size) (hT : Tab w) (id e pp : Int) (sp : Bool) (hi : (Lit.int .i64 id).wf = true) :
    Calls Tryd.prog 10 #[.pointer (some ⟨p, 0, none⟩), .int .i64 id, .int .i64 e, .int .i64 pp, .bool sp] w fun x w' => x = .returned (.int .i64 (joE S n id e pp)) ∧ JQ w base p n c F (joS S n id e pp sp) w' := by
  by_cases hz : joE S n id e pp = 0
  · obtain ⟨g, bm, v, m, A, T, D, Fc, L, hx, a, sl, lk, rfl⟩ := h.ex
    unfold joS
    rw [if_pos hz, hz]
    unfold joE at hz
    have hc : canT e pp = true := by
      cases q : canT e pp with
      | true => rfl
      | false => rw [q] at hz; simp at hz
    rw [hc] at hz
    simp only [Bool.true_eq_false, if_false] at hz
    have hg : getT S id = none := by
      cases q : getT S id with
      | none => rfl
      | some x => rw [q] at hz; simp at hz
    rw [hg] at hz
    simp only [Option.isSome_none, Bool.false_eq_true, if_false] at hz
    have hl : S.length < n := by
      by_cases q : n ≤ S.length
      · rw [if_pos q] at hz; omega
      · omega
    rw [sl.length a hx.rep.out] at hl
    obtain ⟨m0, h1, h2, h3⟩ := least_free n hl
    have hn := sl.not_at a hg
    rcases Nat.lt_or_ge m0 m with q | q
    · exact join_old hx a sl lk hT id e pp sp hi hc hn m0 h1 h2 h3 q
    · have q2 : m0 = m := by
        rcases Nat.lt_or_ge m m0 with z | z
        · have := hx.tk m (h3 m z); omega
        · omega
      exact join_more hx hb a sl lk hT id e pp sp hi hc hn m0 h1 h2 h3 q2
  · exact join_no h id e pp sp hi hz

/-- Task. -/
def TkQ (w : World) (S : List Tk) (i : Int) (e : Ending) (w' : World) : Prop := e = .returned (.tuple #[aggT ((getT S i).getD zeroT), .bool (getT S i).isSome]) ∧ Gr w w'
theorem task_jb (h : Jb w base p n c F S) (i : Int) (hi : (Lit.int .i64 i).wf = true) : Calls Tryd.prog 25 #[.pointer (some ⟨p, 0, none⟩), .int .i64 i] w fun e w' => TkQ w S i e w' := by
  obtain ⟨g, bm, v, m, A, T, D, Fc, L, hx, a, sl, lk, rfl⟩ := h.ex
  have G := (Ke.refl (fun _ => False) w).alloc zTO
  have hx1 := hx.gr G
  have BX := Lib.hid (box_new w)
  obtain ⟨r0, r1, r2, r3, r4, r5, r6, r7, r8, r9, r10⟩ := box_cells BX.out
  simp only [zeroT] at r0 r1 r2 r3 r4 r5 r6 r7 r8 r9 r10
  have zz := BX.out.frozen
  have z0 := zz 0
  have z1 := zz 1
  have z2 := zz 2
  have z3 := zz 3
  have z4 := zz 4
  have z5 := zz 5
  have z6 := zz 6
  have z7 := zz 7
  have z8 := zz 8
  have z9 := zz 9
  have z10 := zz 10
  have HG := Lib.hid G
  clear zz h
  unfold TkQ
  cases hg : getT S i with
  | none =>
    have C := Lib.hid (find_none hx1 hi (sl.not_at a hg))
    have BP := box_put BX.out zeroT
    have BK := box_ke G (Nat.le_refl _) zeroT
    simp only [putB, zeroT] at BP BK
    have BP' := Lib.hid BP
    have BK' := Lib.hid BK
    clear hx hx1 a sl lk hg G BP BK
    go_enter Tryd.func25, Tryd.ntmps25
    go_wp2_with fail
    refine C.out.mono ?_
    rintro e w1 ⟨rfl, hw⟩
    obtain rfl := hw
    clear C
    generalize hW : w.alloc zTO = W at *
    clear hW
    generalize w.heap.size = B at *
    go_wp2_with fail
    generalize (((((((((((W.setCell ⟨B, 0, none⟩ (.int .i64 0)).setCell ⟨B, 1, none⟩ (.int .i64 0)).setCell ⟨B, 2, none⟩ (.int .i64 0)).setCell ⟨B, 3, none⟩ (.bool false)).setCell ⟨B, 4, none⟩ (.bool false)).setCell ⟨B, 5, none⟩ (.bool false)).setCell ⟨B, 6, none⟩ (.bool false)).setCell ⟨B, 7, none⟩ (.int .i64 0)).setCell ⟨B, 8, none⟩ (.int .i64 0)).setCell ⟨B, 9, none⟩ (.bool false)).setCell ⟨B, 10, none⟩ (.int .i64 0)) = W2 at *
    obtain ⟨y0, y1, y2, y3, y4, y5, y6, y7, y8, y9, y10⟩ := box_cells BP'.out
    simp only [upd_same] at y0 y1 y2 y3 y4 y5 y6 y7 y8 y9 y10
    clear r0 r1 r2 r3 r4 r5 r6 r7 r8 r9 r10 z0 z1 z2 z3 z4 z5 z6 z7 z8 z9 z10
    refine bodyPost_ret (v := .tuple #[aggT zeroT, .bool false]) ?_ rfl ?_
    · simp [results, Tryd.results25, go_sem, zeroT, *]
    · exact ⟨rfl, BK'.out⟩
  | some x =>
    obtain ⟨s, hs, hT⟩ := sl.back hg
    obtain ⟨hsm, q, cap, rfl⟩ := hx1.form hs
    have C := Lib.hid (find_some hx1 hi hs)
    have hc := fun o ho => hx1.cell hsm (o := o) ho
    rw [hT] at hc
    have k0 := hc 0 (by omega)
    have k1 := hc 1 (by omega)
    have k2 := hc 2 (by omega)
    have k3 := hc 3 (by omega)
    have k4 := hc 4 (by omega)
    have k5 := hc 5 (by omega)
    have k6 := hc 6 (by omega)
    have k7 := hc 7 (by omega)
    have k8 := hc 8 (by omega)
    have k9 := hc 9 (by omega)
    have k10 := hc 10 (by omega)
    simp only [fld, Nat.add_zero] at k0 k1 k2 k3 k4 k5 k6 k7 k8 k9 k10
    have hqB : ¬ q = w.heap.size := fun z => by
      have h1 := hx.row.lt (g := q) rfl
      omega
    have BP := box_put BX.out x
    have BK := box_ke G (Nat.le_refl _) x
    simp only [putB] at BP BK
    have BP' := Lib.hid BP
    have BK' := Lib.hid BK
    clear hx hx1 a sl lk hg G BP BK hc hT hs hsm
    go_enter Tryd.func25, Tryd.ntmps25
    go_wp2_with fail
    refine C.out.mono ?_
    rintro e w1 ⟨rfl, hw⟩
    obtain rfl := hw
    clear C
    generalize hW : w.alloc zTO = W at *
    clear hW
    generalize w.heap.size = B at *
    go_wp2_with fail
    generalize (((((((((((W.setCell ⟨B, 0, none⟩ (.int .i64 x.id)).setCell ⟨B, 1, none⟩ (.int .i64 x.e)).setCell ⟨B, 2, none⟩ (.int .i64 x.p)).setCell ⟨B, 3, none⟩ (.bool x.sp)).setCell ⟨B, 4, none⟩ (.bool x.le)).setCell ⟨B, 5, none⟩ (.bool x.wa)).setCell ⟨B, 6, none⟩ (.bool x.ac)).setCell ⟨B, 7, none⟩ (.int .i64 x.r)).setCell ⟨B, 8, none⟩ (.int .i64 x.g)).setCell ⟨B, 9, none⟩ (.bool x.dn)).setCell ⟨B, 10, none⟩ (.int .i64 x.ct)) = W2 at *
    obtain ⟨y0, y1, y2, y3, y4, y5, y6, y7, y8, y9, y10⟩ := box_cells BP'.out
    simp only [upd_same] at y0 y1 y2 y3 y4 y5 y6 y7 y8 y9 y10
    clear r0 r1 r2 r3 r4 r5 r6 r7 r8 r9 r10 z0 z1 z2 z3 z4 z5 z6 z7 z8 z9 z10 k0 k1 k2 k3 k4 k5 k6 k7 k8 k9 k10
    refine bodyPost_ret (v := .tuple #[aggT x, .bool true]) ?_ rfl ?_
    · simp [results, Tryd.results25, go_sem, *]
    · exact ⟨rfl, BK'.out⟩
end
end Go.Proofs.YtlpjojegdnconaaDoor
