/- What a law's row wants at its ends: ranks and arrays of five that come in by value, opened and shut; a row's last step where new blocks alone were laid. -/
import Derived.Test.YtpaiaoaffoeleaaB4
import Derived.ProofKit
import Derived.OpenShut
import Derived.Lib.SmallJoins
namespace Go.Proofs.Ytpaiaoaffoeleaa
open Go.ChangeShapes Go.WideShapes Go.ChangeAt Go.RowKit Go.Joins Go.Deep
set_option linter.unusedVariables false

section
variable {H : Type} {enc : TypeId × Value → H} {P : Program} {w : World} {base : Nat} {spare : Nat → Bool} {held : Bool}

theorem open_rk {r : Reach} {b0 : Nat} {t : TypeId} {f0 f1 f2 f3 : Field} {k : IntKind} {v : Value} {d : DataW H} {p : List MemPlace} (hs : P.underlying t = some (.struct #[f0, f1, f2, f3])) (hone : oneCellFields P #[f0, f1, f2, f3] = true) (hC : P.cellsOf t = 4)
    (he0 : P.underlying f0.type = some (.int k)) (he1 : P.underlying f1.type = some (.int k)) (he2 : P.underlying f2.type = some (.int k)) (he3 : P.underlying f3.type = some (.int k)) (hv : Value.okWide P w r b0 t v) (h : DataW.Trod enc P w base spare held t v d p) :
    ∃ x0 x1 x2 x3 : Int, v = .agg #[.int k x0, .int k x1, .int k x2, .int k x3] ∧ d = .agg [.lit (.int k x0), .lit (.int k x1), .lit (.int k x2), .lit (.int k x3)] ∧ p = [] ∧ (Lit.int k x0).wf = true ∧ (Lit.int k x1).wf = true ∧ (Lit.int k x2).wf = true ∧ (Lit.int k x3).wf = true := by
  obtain ⟨v0, v1, v2, v3, y0, y1, y2, y3, n, rfl, rfl, rfl, t0, t1, t2, t3⟩ := open_agg4 hs hone hC hv h
  obtain ⟨x0, f0', g0, w0⟩ := DataW.trod_int he0 t0
  obtain ⟨x1, f1', g1, w1⟩ := DataW.trod_int he1 t1
  obtain ⟨x2, f2', g2, w2⟩ := DataW.trod_int he2 t2
  obtain ⟨x3, f3', g3, w3⟩ := DataW.trod_int he3 t3
  simp at f0' f1' f2' f3'
  subst f0' f1' f2' f3' g0 g1 g2 g3
  exact ⟨x0, x1, x2, x3, rfl, rfl, rfl, w0, w1, w2, w3⟩

theorem shut_rk {t : TypeId} {f0 f1 f2 f3 : Field} {k : IntKind} {x0 x1 x2 x3 : Int} (hs : P.underlying t = some (.struct #[f0, f1, f2, f3])) (hone : oneCellFields P #[f0, f1, f2, f3] = true) (hC : P.cellsOf t = 4)
    (he0 : P.underlying f0.type = some (.int k)) (he1 : P.underlying f1.type = some (.int k)) (he2 : P.underlying f2.type = some (.int k)) (he3 : P.underlying f3.type = some (.int k)) (w0 : (Lit.int k x0).wf = true) (w1 : (Lit.int k x1).wf = true) (w2 : (Lit.int k x2).wf = true) (w3 : (Lit.int k x3).wf = true) :
    DataW.Trod enc P w base spare held t (.agg #[.int k x0, .int k x1, .int k x2, .int k x3]) (.agg [.lit (.int k x0), .lit (.int k x1), .lit (.int k x2), .lit (.int k x3)]) [] :=
  shut_agg4 (y0 := (.lit (.int k x0), [])) (y1 := (.lit (.int k x1), [])) (y2 := (.lit (.int k x2), [])) (y3 := (.lit (.int k x3), [])) hs hone hC ⟨1, by simp [DataW.trod, he0, w0]⟩ ⟨1, by simp [DataW.trod, he1, w1]⟩ ⟨1, by simp [DataW.trod, he2, w2]⟩ ⟨1, by simp [DataW.trod, he3, w3]⟩

theorem list_five {α : Type} {l : List α} (h : l.length = 5) : ∃ a b c d e, l = [a, b, c, d, e] := by
  match l, h with
  | [a, b, c, d, e], _ => exact ⟨a, b, c, d, e, rfl⟩
theorem array_five {α : Type} {l : Array α} (h : l.size = 5) : ∃ a b c d e, l = #[a, b, c, d, e] := by
  obtain ⟨l⟩ := l
  obtain ⟨a, b, c, d, e, rfl⟩ := list_five (l := l) h
  exact ⟨a, b, c, d, e, rfl⟩

theorem open_five {r : Reach} {b0 : Nat} {t e : TypeId} {k : IntKind} {v : Value} {d : DataW H} {p : List MemPlace} (ht : P.underlying t = some (.array 5 e)) (he : P.underlying e = some (.int k)) (hC : P.cellsOf t = 5) (hE : P.cellsOf e = 1)
    (hv : Value.okWide P w r b0 t v) (h : DataW.Trod enc P w base spare held t v d p) :
    ∃ x0 x1 x2 x3 x4 : Int, v = .agg #[.int k x0, .int k x1, .int k x2, .int k x3, .int k x4] ∧ d = .agg [.lit (.int k x0), .lit (.int k x1), .lit (.int k x2), .lit (.int k x3), .lit (.int k x4)] ∧ p = [] ∧ (Lit.int k x0).wf = true ∧ (Lit.int k x1).wf = true ∧ (Lit.int k x2).wf = true ∧ (Lit.int k x3).wf = true ∧ (Lit.int k x4).wf = true := by
  obtain ⟨cs, rfl, hsz⟩ : ∃ cs, v = .agg cs ∧ cs.size = P.cellsOf t := by
    simp only [Value.okWide, ht] at hv
    obtain ⟨cs, h1, h2, _⟩ := hv
    exact ⟨cs, h1, h2⟩
  obtain ⟨c0, c1, c2, c3, c4, rfl⟩ := array_five (hsz.trans hC)
  obtain ⟨fuel, hf⟩ := h
  obtain ⟨xs, m, _, hx, _, hl, hel⟩ := DataW.trod_array ht hf
  obtain ⟨y0, y1, y2, y3, y4, rfl⟩ := list_five hl
  have e0 := hel 0 (by decide)
  have e1 := hel 1 (by decide)
  have e2 := hel 2 (by decide)
  have e3 := hel 3 (by decide)
  have e4 := hel 4 (by decide)
  rw [hE] at e0 e1 e2 e3 e4
  obtain ⟨x0, f0, g0, w0⟩ := DataW.trod_int he (show DataW.trod enc P w base spare held m e [c0] = some y0 from by simpa [Value.cells] using e0)
  obtain ⟨x1, f1, g1, w1⟩ := DataW.trod_int he (show DataW.trod enc P w base spare held m e [c1] = some y1 from by simpa [Value.cells] using e1)
  obtain ⟨x2, f2, g2, w2⟩ := DataW.trod_int he (show DataW.trod enc P w base spare held m e [c2] = some y2 from by simpa [Value.cells] using e2)
  obtain ⟨x3, f3, g3, w3⟩ := DataW.trod_int he (show DataW.trod enc P w base spare held m e [c3] = some y3 from by simpa [Value.cells] using e3)
  obtain ⟨x4, f4, g4, w4⟩ := DataW.trod_int he (show DataW.trod enc P w base spare held m e [c4] = some y4 from by simpa [Value.cells] using e4)
  simp at f0 f1 f2 f3 f4
  subst f0 f1 f2 f3 f4 g0 g1 g2 g3 g4
  simp at hx
  exact ⟨x0, x1, x2, x3, x4, rfl, hx.1, hx.2, w0, w1, w2, w3, w4⟩

theorem shut_five {t e : TypeId} {k : IntKind} {x0 x1 x2 x3 x4 : Int} (ht : P.underlying t = some (.array 5 e)) (he : P.underlying e = some (.int k)) (hC : P.cellsOf t = 5) (hE : P.cellsOf e = 1) (w0 : (Lit.int k x0).wf = true) (w1 : (Lit.int k x1).wf = true) (w2 : (Lit.int k x2).wf = true) (w3 : (Lit.int k x3).wf = true) (w4 : (Lit.int k x4).wf = true) :
    DataW.Trod enc P w base spare held t (.agg #[.int k x0, .int k x1, .int k x2, .int k x3, .int k x4]) (.agg [.lit (.int k x0), .lit (.int k x1), .lit (.int k x2), .lit (.int k x3), .lit (.int k x4)]) [] :=
  ⟨2, by simp [DataW.trod, Value.cells, ht, he, hC, hE, w0, w1, w2, w3, w4, show List.range 5 = [0, 1, 2, 3, 4] from rfl]⟩

/-- A row's last step, behind a call that has laid new blocks and turned nothing that lay. -/
theorem post_gr {f : Func} {s : ChangeSpec} {apart fresh handsOn again : Bool} {W W' : World} {args : Array Value} {v : Value} {ds gs : List (DataW H)} {before pa pv : List MemPlace}
    (hW : DataW.Whole enc P f.params.toList s.vars apart W args.toList ds gs before)
    (hres : ∀ (b : Nat) (sp : Nat → Bool) (hd : Bool), DataW.TrodAll enc P W' b sp hd f.resultTypes.toList (v.resultList f.resultTypes.size) (s.fn H (ds ++ gs)).results [])
    (hargs : ∀ sp : Nat → Bool, (∀ p ∈ before, sp p.block = true) → DataW.TrodAll enc P W' 0 sp true f.params.toList args.toList (s.fn H (ds ++ gs)).args pa)
    (hvars : ∀ sp : Nat → Bool, (∀ p ∈ before, sp p.block = true) → DataW.TrodVars enc P W' sp s.vars (s.fn H (ds ++ gs)).vars pv)
    (hps : before = pa ++ pv) (hg : Gr W W')
    (hok : ∀ (j : Nat) (t : TypeId) (r : Value), f.resultTypes[j]? = some t → (v.resultList f.resultTypes.size)[j]? = some r → Value.okWide P W' .any 0 t r) :
    s.post enc P f apart fresh handsOn again W args v W' := by
  have old : ∀ p ∈ before, p.block < W.heap.size := fun p hp => hW.lt p hp
  have hfr : ∀ b off, MemPlace.cell b off ∈ before → W'.frozen? ⟨b, off, none⟩ = W.frozen? ⟨b, off, none⟩ := fun b off hp => hg.frozen (old _ hp)
  have hka := hargs (fun b => decide (b < W.heap.size)) fun p hp => by simpa using old p hp
  have hkv := hvars (fun b => decide (b < W.heap.size)) fun p hp => by simpa using old p hp
  subst hps
  refine ⟨ds, gs, pa ++ pv, [], pa, pv, hW, hres _ _ _, hka, hkv, World.keptBut_mono (fun p hp => ⟨hp, .inr (List.mem_append.1 hp)⟩) (hg.below.frame (· ∈ pa ++ pv)), fun _ => ?_⟩
  obtain ⟨_, _, _, _, _, hz, hn⟩ := hW
  have ht : DataW.TrodAll enc P W' 0 (fun _ => true) true (f.resultTypes.toList ++ f.params.toList) (v.resultList f.resultTypes.size ++ args.toList) ((s.fn H (ds ++ gs)).results ++ (s.fn H (ds ++ gs)).args) pa := trodAll_append (hargs (fun _ => true) (fun _ _ => rfl)) (hres 0 (fun _ => true) true)
  exact ⟨hok, _, _, pa ++ pv, ⟨pa, pv, ht, hvars _ (fun _ _ => rfl), rfl, fun b off hp => (hfr b off hp).trans (hz b off hp), hn⟩, fun p hp _ => hp⟩
end
end Go.Proofs.Ytpaiaoaffoeleaa
