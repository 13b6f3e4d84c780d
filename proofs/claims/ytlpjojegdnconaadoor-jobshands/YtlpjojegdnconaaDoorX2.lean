/- Deeds of the law that come in, opened; two tasks compared. -/
import Derived.Test.YtlpjojegdnconaaDoorX1
import Derived.Laws.StructEq
namespace Go.Proofs.YtlpjojegdnconaaDoor
open Go.ChangeShapes Go.WideShapes Go.ChangeAt Go.RowKit Go.Joins Go.Deep
set_option linter.unusedVariables false
set_option maxRecDepth 100000
section
variable {H : Type} {enc : TypeId × Value → H} {P : Program} {w : World} {base : Nat} {spare : Nat → Bool} {held : Bool}
theorem trod_struct5 {t : TypeId} {f0 f1 f2 f3 f4 : Field} {fuel : Nat} {cs : List Value} {x : DataW H × List MemPlace} (ht : P.underlying t = some (.struct #[f0, f1, f2, f3, f4])) (h : DataW.trod enc P w base spare held fuel t cs = some x) :
    ∃ y0 y1 y2 y3 y4 n, cs.length = P.cellsOf t ∧ DataW.trod enc P w base spare held n f0.type ((cs.drop f0.offset).take (P.cellsOf f0.type)) = some y0 ∧
      DataW.trod enc P w base spare held n f1.type ((cs.drop f1.offset).take (P.cellsOf f1.type)) = some y1 ∧ DataW.trod enc P w base spare held n f2.type ((cs.drop f2.offset).take (P.cellsOf f2.type)) = some y2 ∧
      DataW.trod enc P w base spare held n f3.type ((cs.drop f3.offset).take (P.cellsOf f3.type)) = some y3 ∧ DataW.trod enc P w base spare held n f4.type ((cs.drop f4.offset).take (P.cellsOf f4.type)) = some y4 := by
  obtain ⟨xs, n, _, rfl, hl, hlen, hf⟩ := DataW.trod_struct ht h
  match xs, hlen with
  | [y0, y1, y2, y3, y4], _ => exact ⟨y0, y1, y2, y3, y4, n, hl, by simpa using hf 0 f0 rfl, by simpa using hf 1 f1 rfl, by simpa using hf 2 f2 rfl, by simpa using hf 3 f3 rfl, by simpa using hf 4 f4 rfl⟩
theorem de_of_trod {t : TypeId} {f0 f1 f2 f3 f4 : Field} {n : Nat} {cs : List Value} {x : DataW H × List MemPlace} (hs : P.underlying t = some (.struct #[f0, f1, f2, f3, f4])) (hone : oneCellFields P #[f0, f1, f2, f3, f4] = true) (hC : P.cellsOf t = 5)
    (he0 : P.underlying f0.type = some (.int .i64)) (he1 : P.underlying f1.type = some (.int .i64)) (he2 : P.underlying f2.type = some (.int .i64)) (he3 : P.underlying f3.type = some (.int .i64)) (he4 : P.underlying f4.type = some .bool)
    (h : DataW.trod enc P w base spare held n t cs = some x) : ∃ d : De, cs = deCells d := by
  obtain ⟨y0, y1, y2, y3, y4, m, hl, h0, h1, h2, h3, h4⟩ := trod_struct5 hs h
  obtain ⟨c0, c1, c2, c3, c4, rfl⟩ := list_five (hl.trans hC)
  obtain ⟨o0, k0⟩ := hone_of hone 0 f0 rfl
  obtain ⟨o1, k1⟩ := hone_of hone 1 f1 rfl
  obtain ⟨o2, k2⟩ := hone_of hone 2 f2 rfl
  obtain ⟨o3, k3⟩ := hone_of hone 3 f3 rfl
  obtain ⟨o4, k4⟩ := hone_of hone 4 f4 rfl
  obtain ⟨x0, f0', _, w0⟩ := DataW.trod_int he0 h0
  obtain ⟨x1, f1', _, w1⟩ := DataW.trod_int he1 h1
  obtain ⟨x2, f2', _, w2⟩ := DataW.trod_int he2 h2
  obtain ⟨x3, f3', _, w3⟩ := DataW.trod_int he3 h3
  obtain ⟨x4, f4', _⟩ := DataW.trod_bool he4 h4
  simp [o0, k0] at f0'
  simp [o1, k1] at f1'
  simp [o2, k2] at f2'
  simp [o3, k3] at f3'
  simp [o4, k4] at f4'
  subst f0' f1' f2' f3' f4'
  exact ⟨⟨x0, x1, x2, x3, x4, w0, w1, w2, w3⟩, rfl⟩
end

/-! ### tasks compared -/
theorem fields49 : Tryd.prog.underlying 49 = some (.struct (Tryd.prog.fieldsOf 49)) := by kernel_rfl
theorem held49 : Tryd.prog.stoodInHeld 49 = false := by kernel_rfl
theorem eq49 (d : Nat) (x : Tk) (w : World) : (Op.equalIn (d + 2) 49 (aggT x) (aggT x)).run Tryd.prog w = .ok true w := by
  rw [run_equalIn_struct w (d + 1) 49 _ _ fields49 held49]
  simp [Program.fieldsOf, Tryd.underlying49, Op.eqFields, go_sem, Tryd.underlying3, Tryd.underlying4]
theorem eqTx (a0 a1 a2 : Int) (b3 b4 b5 b6 : Bool) (a7 a8 : Int) (b9 : Bool) (a10 : Int) (w : World) : (Op.equalIn 10000 49 (.agg #[.int .i64 a0, .int .i64 a1, .int .i64 a2, .bool b3, .bool b4, .bool b5, .bool b6, .int .i64 a7, .int .i64 a8, .bool b9, .int .i64 a10]) (.agg #[.int .i64 a0, .int .i64 a1, .int .i64 a2, .bool b3, .bool b4, .bool b5, .bool b6, .int .i64 a7, .int .i64 a8, .bool b9, .int .i64 a10])).run Tryd.prog w = .ok true w := eq49 9998 ⟨a0, a1, a2, b3, b4, b5, b6, a7, a8, b9, a10⟩ w
end Go.Proofs.YtlpjojegdnconaaDoor
