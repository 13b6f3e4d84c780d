/- The law SlotsPlay of package evenhandedlaw5 answers true for every input: whatever is put, dropped, asked, the table answers the least free slot, both ways, and all ids in order. Condition: the library's table math/bits.deBruijn64tab is as the program's text lays it (the card ties it). -/
import Derived.Test.YtfhnjknlehecgaaDoorQ5
import Derived.Test.YtfhnjknlehecgaaDoorV5
import Derived.Test.YtfhnjknlehecgaaDoorS5
import Derived.Test.YtfhnjknlehecgaaDoorCards
import Derived.Test.YtfhnjknlehecgaaDoorTie
import Derived.Lib.SmallJoins
import Derived.Deep.Slices
namespace Go.Proofs.YtfhnjknlehecgaaDoor.slotsPlay
open Go.ChangeShapes Go.WideShapes Go.ChangeAt Go.RowKit Go.Joins Go.Deep
set_option linter.unusedVariables false

theorem laidOut : laidOutB Tryd.prog = true := by kernel_rfl
theorem readable22 : Tryd.prog.readableRec 22 = true := by kernel_rfl
theorem lt22 : 22 < Tryd.prog.types.size := of_decide_eq_true (by kernel_rfl)
theorem cells29 : Tryd.prog.cellsOf 29 = 2 := by kernel_rfl

theorem u8_nat {n : Int} (h : (Lit.int .u8 n).wf = true) : ∃ m : Nat, n = m ∧ m < 256 := by
  have : 0 ≤ n ∧ n ≤ 255 := by
    have e1 : IntKind.u8.min = 0 := by decide
    have e2 : IntKind.u8.max = 255 := by decide
    simp [Lit.wf, e1, e2] at h
    omega
  exact ⟨n.toNat, by omega, by omega⟩

theorem list_two {α : Type} {l : List α} (h : l.length = 2) : ∃ a b, l = [a, b] := by
  match l, h with
  | [a, b], _ => exact ⟨a, b, rfl⟩

theorem deed_of_cells {H : Type} {enc : TypeId × Value → H} {P : Program} {w : World} {t : TypeId} {f0 f1 : Field} {n : Nat} {cs : List Value} {x : DataW H × List MemPlace} {a : Addr} {base : Nat} {spare : Nat → Bool} {held : Bool} (hs : P.underlying t = some (.struct #[f0, f1])) (hone : oneCellFields P #[f0, f1] = true) (hC : P.cellsOf t = 2)
    (he0 : P.underlying f0.type = some (.int .i64)) (he1 : P.underlying f1.type = some (.int .i64))
    (hc : w.cells? base a (P.cellsOf t) = some cs) (h : DataW.trod enc P w base spare held n t cs = some x) :
    ∃ r : Int × Int, w.cell? a = some (.int .i64 r.1) ∧ w.cell? (a.add 1) = some (.int .i64 r.2) ∧ (Lit.int .i64 r.2).wf = true := by
  obtain ⟨y0, y1, m, hx, hl, h0, h1⟩ := trod_struct2 hs h
  obtain ⟨c0, c1, rfl⟩ := list_two (hl.trans hC)
  obtain ⟨o0, k0⟩ := hone_of hone 0 f0 rfl
  obtain ⟨o1, k1⟩ := hone_of hone 1 f1 rfl
  obtain ⟨x0, f0', _, _⟩ := DataW.trod_int he0 h0
  obtain ⟨x1, f1', _, w1⟩ := DataW.trod_int he1 h1
  simp [o0, k0] at f0'
  simp [o1, k1] at f1'
  subst f0' f1'
  rw [hC] at hc
  unfold World.cells? at hc
  split at hc
  · rw [show List.range 2 = [0, 1] from rfl] at hc
    simp only [List.mapM_cons, List.mapM_nil, Option.bind_eq_bind, Option.pure_def, Option.bind_eq_some_iff, Option.some.injEq] at hc
    obtain ⟨e0, g0, l1, ⟨e1, g1, l2, h4, rfl⟩, q⟩ := hc
    subst h4
    simp only [List.cons.injEq, and_true] at q
    obtain ⟨q0, q1⟩ := q
    subst q0 q1
    exact ⟨(x0, x1), by simpa [Addr.add] using g0, g1, w1⟩
  · cases hc

/-- What came in: no deed, or deeds in cells. -/
def DeedsIn (w : World) (a : Option Addr) (n : Nat) : Prop := n = 0 ∨ ∃ (b off : Nat) (q : List (Int × Int)), a = some ⟨b, off, none⟩ ∧ q.length = n ∧ Deeds w b off q

theorem open_deeds {H : Type} {enc : TypeId × Value → H} {P : Program} {w : World} {r : Reach} {b0 : Nat} {st t : TypeId} {f0 f1 : Field} {v : Value} {d : DataW H} {p : List MemPlace} (hst : P.underlying st = some (.slice t)) (hs : P.underlying t = some (.struct #[f0, f1])) (hone : oneCellFields P #[f0, f1] = true) (hC : P.cellsOf t = 2)
    (he0 : P.underlying f0.type = some (.int .i64)) (he1 : P.underlying f1.type = some (.int .i64)) (hv : Value.okWide P w r b0 st v) (h : DataW.Trod enc P w 0 (fun _ => true) true st v d p) :
    ∃ a n cap, v = .slice a n cap ∧ DeedsIn w a n := by
  obtain ⟨a0, n0, c0, rfl⟩ := okWide_slice hst hv
  refine ⟨a0, n0, c0, rfl, ?_⟩
  obtain ⟨fuel, hf⟩ := h
  rcases open_slice hst hf with ⟨hc, _⟩ | ⟨a, len, cap, m, n, D, Pl, hc, _, hl, hm, hmm, _, hel⟩
  · simp [Value.cells] at hc
    exact Or.inl hc.2.1
  · simp [Value.cells] at hc
    obtain ⟨rfl, rfl, rfl⟩ := hc
    rcases Nat.eq_zero_or_pos n0 with h0 | h0
    · exact Or.inl h0
    · refine Or.inr ?_
      have hm' : m = c0 := by simpa using hmm
      have each : ∀ i, i < n0 → ∃ x : Int × Int, w.cell? (a.add (i * 2)) = some (.int .i64 x.1) ∧ w.cell? ((a.add (i * 2)).add 1) = some (.int .i64 x.2) ∧ (Lit.int .i64 x.2).wf = true := fun i hi => by
        obtain ⟨cs', h1, h2⟩ := hel i (by omega)
        have := deed_of_cells hs hone hC he0 he1 h1 h2
        rwa [hC] at this
      obtain ⟨x0, g0, _⟩ := each 0 h0
      have hsp : a.spot = none := World.cell?_spot (by simpa [Addr.add] using g0)
      have hlt : a.block < w.heap.size := by
        have := lt_of_cell g0
        simpa [Addr.add] using this
      obtain ⟨b, off, sp⟩ := a
      simp only at hsp hlt
      subst hsp
      obtain ⟨f, hf'⟩ := choose_lt (α := Int × Int) each
      refine ⟨b, off, (List.range n0).map f, rfl, by simp, ⟨hlt, fun i hi => ?_, fun i hi => ?_, fun i hi => ?_⟩⟩
      all_goals (
        have hi' : i < n0 := by simpa using hi
        obtain ⟨k0, k1, k2⟩ := hf' i hi'
        rw [add_add] at k1
        simp only [List.getElem_map, List.getElem_range])
      · have e : (⟨b, off, none⟩ : Addr).add (i * 2) = ⟨b, off + i * 2, none⟩ := by unfold Addr.add; split <;> simp_all
        rw [← e]; exact k0
      · have e : (⟨b, off, none⟩ : Addr).add (i * 2 + 1) = ⟨b, off + i * 2 + 1, none⟩ := by unfold Addr.add; split <;> simp_all [Nat.add_assoc]
        rw [← e]; exact k1
      · exact k2

theorem walk (na : Nat) (ha : na < 256) (a : Option Addr) (n cap : Nat) (w : World) (h : DeedsIn w a n) (hT : Tab w) :
    Calls Tryd.prog 3 #[.int .u8 na, .slice a n cap] w fun e w' => e = .returned (.bool true) ∧ Below w.heap.size w w' := by
  rcases h with rfl | ⟨b, off, q, rfl, hq, hc⟩
  · exact play_none na ha a cap w hT
  · by_cases h1 : 200 < n
    · exact play_big na _ n cap w h1 hT
    · exact play_walk na ha b off n cap q w hq (by omega) hc hT

set_option maxRecDepth 100000 in
theorem lifted (os : Os) (started : os.Started) (H : Type) (enc : TypeId × Value → H) :
    ReturnsInHanded {} Tryd.checked os 3 .any (fun w args => (Rows.slotsPlaySpec.pre enc Tryd.prog Tryd.f3 [] false w args ∧ laidMetH Tryd.prog laidL w) ∧ sizedMet enc Tryd.prog Tryd.f3 (OpenSpec.ofChange Rows.slotsPlaySpec) false w args)
      (Rows.slotsPlaySpec.post enc Tryd.prog Tryd.f3 false true false false) := by
  refine returnsInHanded_of_change_and (C := Tryd.checked) (X := fun w _ => laidMetH Tryd.prog laidL w) (fun _ _ _ hh h => h.of_heap hh) own started (by kernel_rfl) Tryd.func3
    (ChangeSpec.witness_shaped (enc := enc) (C := Tryd.checked) (os := os) (X := fun w _ => laidMetH Tryd.prog laidL w) false (World.doorLaid Tryd.prog 400 os) #[.int .u8 0, .slice none 0 0] 8 rfl (World.shaped_of_RefB (by kernel_rfl) (by kernel_rfl)) (by kernel_rfl) (by kernel_rfl) (by kernel_rfl) (door_met os _)) ?_
  intro W base args ds gs before hval0 hW _ _ hL _
  have hval : ∀ (j : Nat) t v, Tryd.f3.params[j]? = some t → args[j]? = some v → Value.okWide Tryd.prog W .any base t v := hval0
  have hW' := hW
  have hlt := fun x hx => hW.lt x hx
  obtain ⟨p, q, hA0, hV, rfl, hfz, hnd⟩ := hW
  have hA : DataW.TrodAll enc Tryd.prog W 0 (fun _ => true) true Tryd.f3.params.toList args.toList ds p := hA0
  rw [Tryd.params3] at hA hval
  obtain ⟨v0, vs0, d0, ds0, p0, q0, hargs, rfl, rfl, h0, r0⟩ := trodAll_cons hA
  obtain ⟨v1, vs1, d1, ds1, p1, q1, rfl, rfl, rfl, h1, r1⟩ := trodAll_cons r0
  obtain ⟨rfl, rfl, rfl⟩ := trodAll_nil r1
  obtain rfl : args = #[v0, v1] := by cases args; simp_all
  obtain ⟨rfl, rfl⟩ := trodVars_none hV
  obtain ⟨n0, rfl, rfl, rfl, w0⟩ := open_int Tryd.underlying5 (hval 0 5 v0 rfl rfl) h0
  obtain ⟨a, n, cap, rfl, hcase⟩ := open_deeds Tryd.underlying22 Tryd.underlying29 (by kernel_rfl) cells29 Tryd.underlying3 Tryd.underlying3 (hval 1 22 v1 rfl rfl) h1
  clear hA0 hval0
  simp only [List.append_nil, List.nil_append] at hW' hlt
  obtain ⟨m, rfl, hm⟩ := u8_nat w0
  refine (walk m hm a n cap W hcase (tab_of_laid hL)).mono fun e W' ⟨he, hg⟩ => ?_
  subst he
  have ha : DataW.TrodAll enc Tryd.prog W' 0 (fun b => decide (b < W.heap.size)) true [5, 22] [.int .u8 m, .slice a n cap] [.lit (.int .u8 m), d1] ([] ++ (p1 ++ [])) := trodAll_cons_mk (shut_int Tryd.underlying5 w0) (trodAll_cons_mk (hg.trod laidOut readable22 lt22 h1 hlt) trodAll_mk0)
  rw [List.nil_append, List.append_nil] at ha
  exact ⟨_, rfl, _, _, _, [], p1, [], hW', trodAll_cons_mk (shut_bool Tryd.underlying4 _) trodAll_mk0, ha, rfl, hg.frame _, fun h => by cases h⟩

theorem over : Rows.SlotsPlaySaid :=
  OpenClaim.holds_of_wide 3 Tryd.f3 rfl rfl rfl rfl rfl rfl rfl ⟨rfl, rfl, rfl, rfl, rfl⟩ rfl rfl rfl rfl rfl (by kernel_rfl) Tryd.func3 (by kernel_rfl)
    (of_decide_eq_true (by kernel_rfl)) (by unfold Func.isWrapper; first | (rw [if_pos (by decide +kernel)]; kernel_rfl) | (rw [if_neg (by decide +kernel)]; exact ⟨rfl, rfl⟩))
    (fun os started H enc _ => lifted os started H enc)

/-- ████ THE STATEMENT: the tied card ████ -/
theorem proved : Rows.SlotsPlayCardSaid :=
  Claim7.holds_tied_plain_at .later [] [.data] true (true, "eaf78713707694d305d0bd30a6f95ab27cba766791087ca7d3ca370b98e93d3e") false
    over (fun _ h => by cases h) (by kernel_rfl) (fun _ h => by cases h) slotsPlay_row_tie rfl ⟨rfl, rfl⟩ (by kernel_rfl) rfl
    (fun f fn hf hfn => by
      obtain rfl : f = 3 := Option.some.inj ((show Tryd.prog.funcNamed "evenhanded/evenhandedlaw5.SlotsPlay" = some 3 by kernel_rfl).symm.trans hf) |>.symm
      obtain rfl : fn = Tryd.f3 := (Option.some.inj (Tryd.func3.symm.trans hfn)).symm
      exact ⟨by kernel_rfl, fun j t ht => by
        rw [Tryd.params3] at ht
        rcases j with _ | _ | j
        · obtain rfl : t = 5 := by simpa using ht.symm
          exact (show Tryd.prog.wantsStandIn 5 = false by kernel_rfl)
        · obtain rfl : t = 22 := by simpa using ht.symm
          exact (show Tryd.prog.wantsStandIn 22 = false by kernel_rfl)
        · simp at ht⟩)
    (by kernel_rfl)
#print axioms proved
end Go.Proofs.YtfhnjknlehecgaaDoor.slotsPlay
