/- The closure, the Once's slow road, Do, ask. -/
import Derived.Test.YtldogmifealkkaaA5
namespace Go.Proofs.Ytldogmifealkkaa
open Go.RowKit Go.Lib Go.Maps
set_option linter.unusedVariables false

/-- (*sync/atomic.Int64).Add. -/
theorem iadd_any {w : World} {p : Nat} (h : w.cell? ⟨p, 7, none⟩ = some (.int .i64 0)) (hz : w.frozen? ⟨p, 7, none⟩ = false) : Calls Try.prog 23 #[.pointer (some ⟨p, 7, none⟩), .int .i64 1] w fun e w' => e = .returned (.int .i64 1) ∧ w' = w.setCell ⟨p, 7, none⟩ (.int .i64 1) := by
  have hadd := run_call_add (P := Try.prog) Try.func26 (by kernel_rfl) (by kernel_rfl) (by kernel_rfl) .i64 (by kernel_rfl) (y := 1) (s := 1) h hz (by kernel_rfl)
  have hp := cell_lt h
  go_enter Try.func23, Try.ntmps23
  go_wp2
  all_goals (try go_ret)
  all_goals (exact ⟨rfl, rfl⟩)

set_option maxRecDepth 100000 in
/-- The closure. -/
theorem made_run {w : World} {p : Nat} {pl : Addr} (hpl : ¬ p = pl.block) (hp : w.cell? pl = some (.pointer (some ⟨p, 0, none⟩))) {a b c d : Value} (c3 : w.cell? ⟨p, 3, none⟩ = some a) (c4 : w.cell? ⟨p, 4, none⟩ = some b) (c5 : w.cell? ⟨p, 5, none⟩ = some c) (c6 : w.cell? ⟨p, 6, none⟩ = some d) (c7 : w.cell? ⟨p, 7, none⟩ = some (.int .i64 0)) (fz : ∀ o, w.frozen? ⟨p, o, none⟩ = false) :
    Calls Try.prog 21 #[.pointer (some pl)] w fun e w' => e = .returned (.tuple #[]) ∧ MadeP w w' p := by
  have lp := cell_lt c3
  have ll := cell_lt hp
  simp only at lp
  go_enter Try.func21, Try.ntmps21
  have CT : Hid (Calls Try.prog 22 #[] w.drew fun x w' => ∃ g cap, x = .returned (.agg #[.slice (some ⟨w.heap.size + 1, 0, none⟩) 9 9, .slice (some ⟨w.heap.size + 2, 0, none⟩) 5 5, .slice (some ⟨g, 0, none⟩) 15 cap, .map (some (w.heap.size + 3))]) ∧ Hid (MT w w' w.heap.size (.slice (some ⟨g, 0, none⟩) 15 cap) 15 8)) := by
    refine (tables_any w.drew).mono ?_
    rintro e w' ⟨ve, h1, h2⟩
    obtain ⟨g, cap, rfl, _, _, _, _⟩ := h2.er.form (by omega)
    exact ⟨g, cap, h1, Lib.hid ⟨((Ke.refl _ w).drew).trans h2.gr, h2.se, h2.r, h2.fr, h2.t0, h2.t1, h2.t2, h2.t3, h2.ft, h2.op, h2.mo, h2.er, h2.mp⟩⟩
  go_upto_region 0 with fail
  go_region_law (first | (go_simp; refine CT.out.mono ?_; rintro e w5 ⟨g, cap, rfl, M⟩; have k3 := kcell M.out.gr c3; have k4 := kcell M.out.gr c4; have k5 := kcell M.out.gr c5; have k6 := kcell M.out.gr c6; have k7 := kcell M.out.gr c7; have kp := kcell M.out.gr hp; have kf := fun o => (M.out.gr.frozen (p := ⟨p, o, none⟩) lp (fun q => q)).trans (fz o); dsimp only))
  all_goals
    have FIN := M.out.tab (p := p) lp c3 c4 c5 c6 c7
    have q7 : ((((w5.setCell ⟨p, 3, none⟩ (.slice (some ⟨w.heap.size + 1, 0, none⟩) 9 9)).setCell ⟨p, 4, none⟩ (.slice (some ⟨w.heap.size + 2, 0, none⟩) 5 5)).setCell ⟨p, 5, none⟩ (.slice (some ⟨g, 0, none⟩) 15 cap)).setCell ⟨p, 6, none⟩ (.map (some (w.heap.size + 3)))).cell? ⟨p, 7, none⟩ = some (.int .i64 0) := by
      rw [World.cell?_setCell_other _ _ _ _ (by simp), World.cell?_setCell_other _ _ _ _ (by simp), World.cell?_setCell_other _ _ _ _ (by simp), World.cell?_setCell_other _ _ _ _ (by simp)]; exact k7
    have qp : ((((w5.setCell ⟨p, 3, none⟩ (.slice (some ⟨w.heap.size + 1, 0, none⟩) 9 9)).setCell ⟨p, 4, none⟩ (.slice (some ⟨w.heap.size + 2, 0, none⟩) 5 5)).setCell ⟨p, 5, none⟩ (.slice (some ⟨g, 0, none⟩) 15 cap)).setCell ⟨p, 6, none⟩ (.map (some (w.heap.size + 3)))).cell? pl = some (.pointer (some ⟨p, 0, none⟩)) := by
      rw [World.cell?_setCell_other _ _ _ _ (fun e => hpl (by rw [← e])), World.cell?_setCell_other _ _ _ _ (fun e => hpl (by rw [← e])), World.cell?_setCell_other _ _ _ _ (fun e => hpl (by rw [← e])), World.cell?_setCell_other _ _ _ _ (fun e => hpl (by rw [← e]))]; exact kp
    have q8 : ((((w5.setCell ⟨p, 3, none⟩ (.slice (some ⟨w.heap.size + 1, 0, none⟩) 9 9)).setCell ⟨p, 4, none⟩ (.slice (some ⟨w.heap.size + 2, 0, none⟩) 5 5)).setCell ⟨p, 5, none⟩ (.slice (some ⟨g, 0, none⟩) 15 cap)).setCell ⟨p, 6, none⟩ (.map (some (w.heap.size + 3)))).frozen? ⟨p, 7, none⟩ = false := by
      rw [World.frozen?_setCell, World.frozen?_setCell, World.frozen?_setCell, World.frozen?_setCell]; exact kf 7
    generalize ((((w5.setCell ⟨p, 3, none⟩ (.slice (some ⟨w.heap.size + 1, 0, none⟩) 9 9)).setCell ⟨p, 4, none⟩ (.slice (some ⟨w.heap.size + 2, 0, none⟩) 5 5)).setCell ⟨p, 5, none⟩ (.slice (some ⟨g, 0, none⟩) 15 cap)).setCell ⟨p, 6, none⟩ (.map (some (w.heap.size + 3)))) = w6 at FIN q7 qp q8 ⊢
    have FIN2 := Lib.hid FIN
    clear FIN M kp kf k3 k4 k5 k6 k7 CT
    go_wp2_with fail
    refine (iadd_any q7 q8).mono ?_
    rintro e w7 ⟨rfl, rfl⟩
    go_wp2
    go_end0
    exact ⟨rfl, FIN2.out⟩

/-- (*sync/atomic.Bool).Load. -/
theorem bload_any {a : Addr} {d : Int} {b : Bool} {w : World} (h : w.cell? a = some (.int .u32 d)) (hb : (d != 0) = b) : Calls Try.prog 24 #[.pointer (some a)] w fun e w' => e = .returned (.bool b) ∧ w' = w := by
  have hl := run_call_load (P := Try.prog) Try.func27 (by kernel_rfl) (by kernel_rfl) (by kernel_rfl) .u32 (by kernel_rfl) h
  go_enter Try.func24, Try.ntmps24
  go_wp2
  all_goals (try go_ret)
  all_goals (exact ⟨rfl, rfl⟩)

/-- What a first question leaves. -/
def DoneP (w w' : World) (p s : Nat) : Prop := Ke (fun k => k = p) w w' ∧ NM w' p s true

set_option maxRecDepth 100000 in
set_option maxHeartbeats 1600000 in
/-- doSlow. -/
theorem slow_any {w : World} {p s : Nat} {pl : Addr} (h : NM w p s false) (hpl : ¬ p = pl.block) (hp : w.cell? pl = some (.pointer (some ⟨p, 0, none⟩))) :
    Calls Try.prog 25 #[.pointer (some ⟨p, 0, none⟩), .func (.func 21) #[] #[.pointer (some pl)]] w fun e w' => e = .returned (.tuple #[]) ∧ DoneP w w' p s := by
  obtain ⟨h1, h2, c0, c1, c7, ⟨a, b, c, d, c3, c4, c5, c6⟩, fz⟩ := h
  have hnot : ∀ (x : Bool) (w : World), (Op.unary .not (.bool x)).run Try.prog w = .ok (.bool (!x)) w := fun _ _ => rfl
  have ot : ∀ o, o ≠ 1 → (w.setCell ⟨p, 1, none⟩ (.int .i32 1)).cell? ⟨p, o, none⟩ = w.cell? ⟨p, o, none⟩ := fun o ho => World.cell?_setCell_other _ _ _ _ (by simp)
  have MR := Lib.hid (made_run (w := w.setCell ⟨p, 1, none⟩ (.int .i32 1)) (p := p) (pl := pl) hpl ((World.cell?_setCell_other _ _ _ _ (fun e => hpl (by rw [← e]))).trans hp) ((ot 3 (by omega)).trans c3) ((ot 4 (by omega)).trans c4) ((ot 5 (by omega)).trans c5) ((ot 6 (by omega)).trans c6) ((ot 7 (by omega)).trans c7) (fun o => by rw [World.frozen?_setCell]; exact fz o))
  have f0 := fz 0
  have f1 := fz 1
  clear c3 c4 c5 c6 c7
  have lw : (w.setCell ⟨p, 1, none⟩ (.int .i32 1)).heap.size = w.heap.size := by simp
  go_enter_defers Try.func25, Try.ntmps25
  go_wp2_with fail
  refine (Go.MuLone.lock_free muLib ⟨p, 1, none⟩ _ c1 f1).mono ?_
  rintro e w1 ⟨rfl, rfl⟩
  have e0 := (ot 0 (by omega)).trans c0
  have g0 : (w.setCell ⟨p, 1, none⟩ (.int .i32 1)).frozen? ⟨p, 0, none⟩ = false := by rw [World.frozen?_setCell]; exact f0
  have g1 : (w.setCell ⟨p, 1, none⟩ (.int .i32 1)).frozen? ⟨p, 1, none⟩ = false := by rw [World.frozen?_setCell]; exact f1
  have e1 : (w.setCell ⟨p, 1, none⟩ (.int .i32 1)).cell? ⟨p, 1, none⟩ = some (.int .i32 1) := World.cell?_setCell_same _ _ _ c1
  have K1 : Hid (Ke (fun k => k = p) w (w.setCell ⟨p, 1, none⟩ (.int .i32 1))) := Lib.hid ((Ke.refl _ w).setp 1 _)
  clear ot c0 c1 f0 f1 fz hp
  generalize w.setCell ⟨p, 1, none⟩ (.int .i32 1) = w1 at *
  go_wp2_with fail
  refine (bload_any (b := false) e0 rfl).mono ?_
  rintro e w2 ⟨rfl, rfl⟩
  go_wp2_with fail
  refine MR.out.mono ?_
  rintro e w3 ⟨rfl, MP⟩
  obtain ⟨k3, ce, fe, ce7, bo, bm, be, cap, mb, T⟩ := MP
  have c30 := (ce 0 (by omega)).trans e0
  have c31 := (ce 1 (by omega)).trans e1
  have f30 := (fe 0).trans g0
  have f31 := (fe 1).trans g1
  have HT := Lib.hid T
  have HK := Lib.hid (K1.out.trans k3)
  have HC := Lib.hid ce7
  clear T k3 ce fe ce7 MR e0 e1 g0 g1
  go_wp2
  refine leaves_cons (f := 30) (args := #[.pointer (some ⟨p, 0, none⟩), .bool true]) (by simp) (by simp [go_sem]) ?_
  refine (store_deferred ⟨p, 0, none⟩ (.int .u32 0) .returning _ c30 f30).mono ?_
  rintro e u' w4 ⟨rfl, rfl, rfl⟩
  refine leaves_cons (f := 29) (args := #[.pointer (some ⟨p, 1, none⟩)]) (by simp [settle]) (by simp [go_sem]) ?_
  refine (Go.MuLone.unlock_deferred muLib ⟨p, 1, none⟩ _ _ ((World.cell?_setCell_other w3.drew ⟨p, 0, none⟩ ⟨p, 1, none⟩ _ (by simp)).trans c31) ((World.frozen?_setCell _ _ _ _).trans f31)).mono ?_
  rintro e u' w5 ⟨rfl, rfl, rfl⟩
  have hb : ∀ j, j ≠ p → ((w3.drew.setCell ⟨p, 0, none⟩ (.int .u32 1)).setCell ⟨p, 1, none⟩ (.int .i32 0)).heap[j]? = w3.heap[j]? := fun j hj => (Below.heap_setCell _ _ _ _ (fun e => hj (by simpa using e))).trans (Below.heap_setCell _ _ _ _ (fun e => hj (by simpa using e)))
  have hc : ∀ o, 2 ≤ o → ((w3.drew.setCell ⟨p, 0, none⟩ (.int .u32 1)).setCell ⟨p, 1, none⟩ (.int .i32 0)).cell? ⟨p, o, none⟩ = w3.cell? ⟨p, o, none⟩ := fun o ho => (World.cell?_setCell_other _ _ _ _ (by simp)).trans (World.cell?_setCell_other _ _ _ _ (by simp))
  have D : DoneP w ((w3.drew.setCell ⟨p, 0, none⟩ (.int .u32 1)).setCell ⟨p, 1, none⟩ (.int .i32 0)) p s := by
    have K := ((HK.out.drew).setp 0 (.int .u32 1)).setp 1 (.int .i32 0)
    have T := HT.out
    obtain ⟨Dm, o, n⟩ := T.mp
    obtain ⟨l1, l2, l3, l4⟩ := T.lo
    refine ⟨K, h1, by have := K.size; omega, ?_, (hc 7 (by omega)).trans HC.out, bo, bm, be, cap, mb, ?_⟩
    · exact (World.cell?_setCell_other _ _ _ _ (by simp)).trans (World.cell?_setCell_same _ _ _ c30)
    · exact ⟨(hc 3 (by omega)).trans T.c3, (hc 4 (by omega)).trans T.c4, (hc 5 (by omega)).trans T.c5, (hc 6 (by omega)).trans T.c6, T.op.keep (hb _ (by omega)), T.mo.keep (hb _ (by omega)), T.er.keep (hb _ (by omega)), ⟨Dm, own_keep o (hb _ (by omega)), n⟩, by omega, by omega, by omega, by omega⟩
  have HD := Lib.hid D
  clear D HT HK HC
  simp [Leaves, settle, results, Try.results25]
  exact HD.out

set_option maxRecDepth 100000 in
set_option maxHeartbeats 1600000 in
/-- Do, the first time. -/
theorem do_first {w : World} {p s : Nat} {pl : Addr} (h : NM w p s false) (hpl : ¬ p = pl.block) (hp : w.cell? pl = some (.pointer (some ⟨p, 0, none⟩))) :
    Calls Try.prog 20 #[.pointer (some ⟨p, 0, none⟩), .func (.func 21) #[] #[.pointer (some pl)]] w fun e w' => e = .returned (.tuple #[]) ∧ DoneP w w' p s := by
  have h0 := h.2.2.1
  have SA := Lib.hid (slow_any h hpl hp)
  have hnot : ∀ (x : Bool) (w : World), (Op.unary .not (.bool x)).run Try.prog w = .ok (.bool (!x)) w := fun _ _ => rfl
  clear h
  go_enter Try.func20, Try.ntmps20
  go_wp2_with fail
  refine (bload_any (b := false) h0 rfl).mono ?_
  rintro e w2 ⟨rfl, rfl⟩
  go_wp2_with fail
  refine SA.out.mono ?_
  rintro e w3 ⟨rfl, D⟩
  have HD := Lib.hid D
  clear D
  go_wp2
  go_end0
  exact ⟨rfl, HD.out⟩

/-- Do, later. -/
theorem do_done {w : World} {p : Nat} {fv : Value} (h0 : w.cell? ⟨p, 0, none⟩ = some (.int .u32 1)) :
    Calls Try.prog 20 #[.pointer (some ⟨p, 0, none⟩), fv] w fun e w' => e = .returned (.tuple #[]) ∧ w' = w := by
  have hnot : ∀ (x : Bool) (w : World), (Op.unary .not (.bool x)).run Try.prog w = .ok (.bool (!x)) w := fun _ _ => rfl
  go_enter Try.func20, Try.ntmps20
  go_wp2_with fail
  refine (bload_any (b := true) h0 rfl).mono ?_
  rintro e w2 ⟨rfl, rfl⟩
  go_wp2
  go_end0
  exact ⟨rfl, rfl⟩

set_option maxRecDepth 100000 in
set_option maxHeartbeats 1600000 in
/-- ask. -/
theorem ask_any {w : World} {p s : Nat} {m : Bool} (h : NM w p s m) :
    Calls Try.prog 17 #[.pointer (some ⟨p, 0, none⟩)] w fun e w' => e = .returned (.pointer (some ⟨p, 3, none⟩)) ∧ DoneP w w' p s := by
  have hmf : ∀ (fn : Fn) (first cap : Array Value) (w : World), (Instr.makeFunc fn first cap).run Try.prog w = .ok (.func fn first cap) w := fun _ _ _ _ => rfl
  have l1 := h.1
  have l2 := h.2.1
  have lp : p < w.heap.size := by omega
  have G := (Ke.refl (fun _ => False) w).alloc (.cells #[.pointer (some ⟨p, 0, none⟩)] 23)
  have h' := h.keep G (fun _ q => q.elim)
  have HW := Lib.hid G
  have p0 : (w.alloc (.cells #[.pointer (some ⟨p, 0, none⟩)] 23)).cell? ⟨w.heap.size, 0, none⟩ = some (.pointer (some ⟨p, 0, none⟩)) := by simp
  have hpl : ¬ p = w.heap.size := by omega
  have DO : Hid (Calls Try.prog 20 #[.pointer (some ⟨p, 0, none⟩), .func (.func 21) #[] #[.pointer (some ⟨w.heap.size, 0, none⟩)]] (w.alloc (.cells #[.pointer (some ⟨p, 0, none⟩)] 23)) fun e w' => e = .returned (.tuple #[]) ∧ DoneP (w.alloc (.cells #[.pointer (some ⟨p, 0, none⟩)] 23)) w' p s) := by
    cases m with
    | false => exact Lib.hid (do_first h' hpl p0)
    | true =>
      refine Lib.hid ((do_done h'.2.2.1).mono ?_)
      rintro e w' ⟨rfl, rfl⟩
      exact ⟨rfl, Ke.refl _ _, h'⟩
  clear h h' G
  go_enter Try.func17, Try.ntmps17
  go_wp2_with fail
  refine DO.out.mono ?_
  rintro e w3 ⟨rfl, D⟩
  have q0 : w3.cell? ⟨w.heap.size, 0, none⟩ = some (.pointer (some ⟨p, 0, none⟩)) := (D.1.cell (by simp) (by simp; omega)).trans p0
  have HD := Lib.hid D
  clear D DO p0
  go_wp2
  go_ret
  exact ⟨rfl, (Ke.of_gr HW.out).trans HD.out.1, HD.out.2⟩
end Go.Proofs.Ytldogmifealkkaa
