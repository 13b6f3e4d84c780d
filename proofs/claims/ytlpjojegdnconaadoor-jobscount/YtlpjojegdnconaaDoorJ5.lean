/- Tasks: contracts of the methods of one task; may. -/
import Derived.Test.YtlpjojegdnconaaDoorJ4
import Derived.Deep.QuietTactic
namespace Go.Proofs.YtlpjojegdnconaaDoor
open Go.RowKit Go.Lib Go.Maps
open Ca (Ke Gr Sv Row Cl Ky Bs blk_other)
set_option linter.unusedVariables false
set_option maxRecDepth 100000

theorem _root_.Go.Proofs.YtlpjojegdnconaaDoor.Ca.Ke.drewN {F : Nat → Prop} {a b : World} (h : Ke F a b) (n : Nat) : Ke F a (b.drewN n) := ⟨h.os, h.tape, h.output, h.size, h.block⟩
theorem may_any (e p : Int) (w : World) : Calls Tryd.prog 29 #[.int .i64 e, .int .i64 p] w fun x w' => x = .returned (.bool (canT e p)) ∧ w' = w := by
  obtain ⟨a, ha⟩ : ∃ a, decide (e ≥ 1) = a := ⟨_, rfl⟩
  obtain ⟨b, hb⟩ : ∃ b, decide (e ≤ p) = b := ⟨_, rfl⟩
  obtain ⟨d, hd⟩ : ∃ d, decide (p ≤ 1048575) = d := ⟨_, rfl⟩
  have hc := Lib.hid (show canT e p = (a && b && d) by unfold canT; rw [← ha, ← hb, ← hd])
  cases a <;> cases b <;> cases d
  all_goals
    go_enter Tryd.func29, Tryd.ntmps29
    go_wp2
    go_ret
    exact ⟨by rw [hc.out]; rfl, rfl⟩

theorem full_any (q a : Nat) (g e : Int) (w : World) (c8 : w.cell? ⟨q, a + 8, none⟩ = some (.int .i64 g)) (c1 : w.cell? ⟨q, a + 1, none⟩ = some (.int .i64 e)) : Calls Tryd.prog 35 #[.pointer (some ⟨q, a, none⟩)] w fun x w' => x = .returned (.bool (decide (g = e))) ∧ Gr w w' := by
  go_enter Tryd.func35, Tryd.ntmps35
  go_wp2_with fail
  go_quiet (fail)
  go_wp2_with fail
  go_ret
  exact ⟨rfl, (Ke.refl _ _).drewN _⟩

theorem ready_any (q a : Nat) (ac sp wa : Bool) (w : World) (c6 : w.cell? ⟨q, a + 6, none⟩ = some (.bool ac)) (c3 : w.cell? ⟨q, a + 3, none⟩ = some (.bool sp)) (c5 : w.cell? ⟨q, a + 5, none⟩ = some (.bool wa)) : Calls Tryd.prog 37 #[.pointer (some ⟨q, a, none⟩)] w fun x w' => x = .returned (.bool (!ac && (!sp || wa))) ∧ w' = w := by
  cases ac <;> cases sp <;> cases wa
  all_goals
    go_enter Tryd.func37, Tryd.ntmps37
    go_wp2
    go_ret
    exact ⟨rfl, rfl⟩

theorem begin_any (q a : Nat) (ac wa : Bool) (t r ct : Int) (w : World) (c6 : w.cell? ⟨q, a + 6, none⟩ = some (.bool ac)) (c5 : w.cell? ⟨q, a + 5, none⟩ = some (.bool wa)) (c7 : w.cell? ⟨q, a + 7, none⟩ = some (.int .i64 r)) (c10 : w.cell? ⟨q, a + 10, none⟩ = some (.int .i64 ct)) (fz : ∀ o, w.frozen? ⟨q, o, none⟩ = false) (h0 : 0 ≤ ct) (h1 : ct ≤ 1000000) :
    Calls Tryd.prog 38 #[.pointer (some ⟨q, a, none⟩), .int .i64 t] w fun x w' => x = .returned (.tuple #[]) ∧ w' = (((w.setCell ⟨q, a + 6, none⟩ (.bool true)).setCell ⟨q, a + 5, none⟩ (.bool false)).setCell ⟨q, a + 7, none⟩ (.int .i64 t)).setCell ⟨q, a + 10, none⟩ (.int .i64 (ct + 1)) := by
  have z6 := fz (a + 6)
  have z5 := fz (a + 5)
  have z7 := fz (a + 7)
  have z10 := fz (a + 10)
  clear fz
  go_enter Tryd.func38, Tryd.ntmps38
  go_wp2
  go_end0
  exact ⟨rfl, rfl⟩
theorem end_any (q a : Nat) (ac dn : Bool) (r g : Int) (w : World) (c6 : w.cell? ⟨q, a + 6, none⟩ = some (.bool ac)) (c9 : w.cell? ⟨q, a + 9, none⟩ = some (.bool dn)) (c7 : w.cell? ⟨q, a + 7, none⟩ = some (.int .i64 r)) (c8 : w.cell? ⟨q, a + 8, none⟩ = some (.int .i64 g)) (fz : ∀ o, w.frozen? ⟨q, o, none⟩ = false) :
    Calls Tryd.prog 43 #[.pointer (some ⟨q, a, none⟩)] w fun x w' => x = .returned (.tuple #[]) ∧ w' = (((w.setCell ⟨q, a + 6, none⟩ (.bool false)).setCell ⟨q, a + 9, none⟩ (.bool false)).setCell ⟨q, a + 7, none⟩ (.int .i64 0)).setCell ⟨q, a + 8, none⟩ (.int .i64 0) := by
  have z6 := fz (a + 6)
  have z9 := fz (a + 9)
  have z7 := fz (a + 7)
  have z8 := fz (a + 8)
  clear fz
  go_enter Tryd.func43, Tryd.ntmps43
  go_wp2
  go_end0
  exact ⟨rfl, rfl⟩
theorem deadline_any (q a : Nat) (r p : Int) (w : World) (c7 : w.cell? ⟨q, a + 7, none⟩ = some (.int .i64 r)) (c2 : w.cell? ⟨q, a + 2, none⟩ = some (.int .i64 p)) (h0 : 0 ≤ r) (h1 : r ≤ 1000000000000) (h2 : 0 ≤ p) (h3 : p ≤ 1048575) :
    Calls Tryd.prog 52 #[.pointer (some ⟨q, a, none⟩)] w fun x w' => x = .returned (.tuple #[.int .i64 (r + p), .bool true]) ∧ Gr w w' := by
  have e1 : ¬ (9223372036854775807 - p < r) := by omega
  go_enter Tryd.func52, Tryd.ntmps52
  go_wp2_with fail
  go_quiet (fail)
  go_wp2_with fail
  go_quiet (fail)
  go_wp2_with fail
  go_ret2
  exact ⟨rfl, ((Ke.refl _ _).drewN _).drewN _⟩
end Go.Proofs.YtlpjojegdnconaaDoor
