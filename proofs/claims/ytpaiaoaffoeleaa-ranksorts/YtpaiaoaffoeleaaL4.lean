/- A slice of ranks that comes in, opened; a row's last step where nothing that lay was turned. -/
import Derived.Test.YtpaiaoaffoeleaaS4
import Derived.Test.YtpaiaoaffoeleaaD4
import Derived.Deep.Slices
namespace Go.Proofs.Ytpaiaoaffoeleaa
open Go.ChangeShapes Go.WideShapes Go.ChangeAt Go.RowKit Go.Joins Go.Deep
set_option linter.unusedVariables false

section
variable {H : Type} {enc : TypeId × Value → H} {P : Program} {w : World}

theorem list_four {α : Type} {l : List α} (h : l.length = 4) : ∃ a b c d, l = [a, b, c, d] := by
  match l, h with
  | [a, b, c, d], _ => exact ⟨a, b, c, d, rfl⟩

theorem rk_of_cells {t : TypeId} {f0 f1 f2 f3 : Field} {k : IntKind} {n : Nat} {cs : List Value} {x : DataW H × List MemPlace} {a : Addr} {base : Nat} {spare : Nat → Bool} {held : Bool} (hs : P.underlying t = some (.struct #[f0, f1, f2, f3])) (hone : oneCellFields P #[f0, f1, f2, f3] = true) (hC : P.cellsOf t = 4)
    (he0 : P.underlying f0.type = some (.int .i64)) (he1 : P.underlying f1.type = some (.int .i64)) (he2 : P.underlying f2.type = some (.int .i64)) (he3 : P.underlying f3.type = some (.int .i64))
    (hc : w.cells? base a (P.cellsOf t) = some cs) (h : DataW.trod enc P w base spare held n t cs = some x) :
    ∃ r : Rk, w.cell? a = some (.int .i64 r.d) ∧ w.cell? (a.add 1) = some (.int .i64 r.b) ∧ w.cell? (a.add 2) = some (.int .i64 r.g) ∧ w.cell? (a.add 3) = some (.int .i64 r.i) := by
  obtain ⟨y0, y1, y2, y3, m, hx, hl, h0, h1, h2, h3⟩ := trod_struct4 hs h
  obtain ⟨c0, c1, c2, c3, rfl⟩ := list_four (hl.trans hC)
  obtain ⟨o0, k0⟩ := hone_of hone 0 f0 rfl
  obtain ⟨o1, k1⟩ := hone_of hone 1 f1 rfl
  obtain ⟨o2, k2⟩ := hone_of hone 2 f2 rfl
  obtain ⟨o3, k3⟩ := hone_of hone 3 f3 rfl
  obtain ⟨x0, f0', _, _⟩ := DataW.trod_int he0 h0
  obtain ⟨x1, f1', _, _⟩ := DataW.trod_int he1 h1
  obtain ⟨x2, f2', _, _⟩ := DataW.trod_int he2 h2
  obtain ⟨x3, f3', _, _⟩ := DataW.trod_int he3 h3
  simp [o0, k0] at f0'
  simp [o1, k1] at f1'
  simp [o2, k2] at f2'
  simp [o3, k3] at f3'
  subst f0' f1' f2' f3'
  rw [hC] at hc
  unfold World.cells? at hc
  split at hc
  · rw [show List.range 4 = [0, 1, 2, 3] from rfl] at hc
    simp only [List.mapM_cons, List.mapM_nil, Option.bind_eq_bind, Option.pure_def, Option.bind_eq_some_iff, Option.some.injEq] at hc
    obtain ⟨e0, g0, l1, ⟨e1, g1, l2, ⟨e2, g2, l3, ⟨e3, g3, l4, h4, rfl⟩, rfl⟩, rfl⟩, q⟩ := hc
    subst h4
    simp only [List.cons.injEq, and_true] at q
    obtain ⟨q0, q1, q2, q3⟩ := q
    subst q0 q1 q2 q3
    exact ⟨⟨x0, x1, x2, x3⟩, by simpa [Addr.add] using g0, g1, g2, g3⟩
  · cases hc

/-- What a slice of ranks that came in is: its length is nought, or its cells hold ranks. -/
theorem open_rks {r : Reach} {b0 : Nat} {st t : TypeId} {f0 f1 f2 f3 : Field} {v : Value} {d : DataW H} {p : List MemPlace} (hst : P.underlying st = some (.slice t)) (hs : P.underlying t = some (.struct #[f0, f1, f2, f3])) (hone : oneCellFields P #[f0, f1, f2, f3] = true) (hC : P.cellsOf t = 4)
    (he0 : P.underlying f0.type = some (.int .i64)) (he1 : P.underlying f1.type = some (.int .i64)) (he2 : P.underlying f2.type = some (.int .i64)) (he3 : P.underlying f3.type = some (.int .i64))
    (hv : Value.okWide P w r b0 st v) (h : DataW.Trod enc P w 0 (fun _ => true) true st v d p) :
    ∃ a n cap, v = .slice a n cap ∧ (n = 0 ∨ ∃ b off q, a = some ⟨b, off, none⟩ ∧ q.length = n ∧ CellsIn w b off q) := by
  obtain ⟨a0, n0, c0, rfl⟩ := okWide_slice hst hv
  refine ⟨a0, n0, c0, rfl, ?_⟩
  obtain ⟨fuel, hf⟩ := h
  rcases open_slice hst hf with ⟨hc, _⟩ | ⟨a, len, cap, m, n, D, Pl, hc, _, hl, hm, hmm, _, hel⟩
  · simp [Value.cells] at hc
    exact .inl hc.2.1
  · simp [Value.cells] at hc
    obtain ⟨rfl, rfl, rfl⟩ := hc
    rcases Nat.eq_zero_or_pos n0 with h0 | h0
    · exact .inl h0
    · refine .inr ?_
      have hm' : m = c0 := by simpa using hmm
      have each : ∀ i, i < n0 → ∃ x : Rk, w.cell? (a.add (i * 4)) = some (.int .i64 x.d) ∧ w.cell? ((a.add (i * 4)).add 1) = some (.int .i64 x.b) ∧ w.cell? ((a.add (i * 4)).add 2) = some (.int .i64 x.g) ∧ w.cell? ((a.add (i * 4)).add 3) = some (.int .i64 x.i) := fun i hi => by
        obtain ⟨cs', h1, h2⟩ := hel i (by omega)
        have := rk_of_cells (k := .i64) hs hone hC he0 he1 he2 he3 h1 h2
        rwa [hC] at this
      obtain ⟨x0, g0, _⟩ := each 0 h0
      have hsp : a.spot = none := World.cell?_spot (by simpa [Addr.add] using g0)
      have hlt : a.block < w.heap.size := by
        have := lt_of_cell g0
        simpa [Addr.add] using this
      obtain ⟨b, off, sp⟩ := a
      simp only at hsp hlt
      subst hsp
      obtain ⟨f, hf'⟩ := choose_lt (α := Rk) each
      refine ⟨b, off, (List.range n0).map f, rfl, by simp, ⟨hlt, fun i hi => ?_, fun i hi => ?_, fun i hi => ?_, fun i hi => ?_⟩⟩
      all_goals (
        have hi' : i < n0 := by simpa using hi
        obtain ⟨k0, k1, k2, k3⟩ := hf' i hi'
        rw [add_add] at k1 k2 k3
        simp only [List.getElem_map, List.getElem_range])
      · have e : (⟨b, off, none⟩ : Addr).add (i * 4) = ⟨b, off + i * 4, none⟩ := by unfold Addr.add; split <;> simp_all
        rw [← e]; exact k0
      · have e : (⟨b, off, none⟩ : Addr).add (i * 4 + 1) = ⟨b, off + i * 4 + 1, none⟩ := by unfold Addr.add; split <;> simp_all [Nat.add_assoc]
        rw [← e]; exact k1
      · have e : (⟨b, off, none⟩ : Addr).add (i * 4 + 2) = ⟨b, off + i * 4 + 2, none⟩ := by unfold Addr.add; split <;> simp_all [Nat.add_assoc]
        rw [← e]; exact k2
      · have e : (⟨b, off, none⟩ : Addr).add (i * 4 + 3) = ⟨b, off + i * 4 + 3, none⟩ := by unfold Addr.add; split <;> simp_all [Nat.add_assoc]
        rw [← e]; exact k3
end
end Go.Proofs.Ytpaiaoaffoeleaa
