/- The law SeatPlays of package evenhandedlaw14 answers true for every input: whoever sits, is forgotten: each has the core that the document says. Condition: the library's table math/bits.deBruijn64tab is as the program's text lays it (the card ties it). -/
import Derived.Test.YtnmdidglfegdcaaDoorE9
import Derived.Test.YtnmdidglfegdcaaDoorX1
import Derived.Test.YtnmdidglfegdcaaDoorS5
import Derived.Test.YtnmdidglfegdcaaDoorCards
import Derived.Test.YtnmdidglfegdcaaDoorTie
import Derived.Lib.SmallJoins
import Derived.Deep.Slices
namespace Go.Proofs.YtnmdidglfegdcaaDoor.seatPlays
open Go.ChangeShapes Go.WideShapes Go.ChangeAt Go.RowKit Go.Joins Go.Deep
set_option linter.unusedVariables false

theorem laidOut : laidOutB Tryd.prog = true := by kernel_rfl
theorem readable22 : Tryd.prog.readableRec 22 = true := by kernel_rfl
theorem lt22 : 22 < Tryd.prog.types.size := of_decide_eq_true (by kernel_rfl)
theorem cells32 : Tryd.prog.cellsOf 32 = 3 := by kernel_rfl
theorem cells3 : Tryd.prog.cellsOf 3 = 1 := by kernel_rfl

set_option maxRecDepth 100000 in
theorem lifted (os : Os) (started : os.Started) (H : Type) (enc : TypeId × Value → H) :
    ReturnsInHanded {} Tryd.checked os 3 .any (fun w args => (Rows.seatPlaysSpec.pre enc Tryd.prog Tryd.f3 [] false w args ∧ laidMetH Tryd.prog laidL w) ∧ sizedMet enc Tryd.prog Tryd.f3 (OpenSpec.ofChange Rows.seatPlaysSpec) false w args)
      (Rows.seatPlaysSpec.post enc Tryd.prog Tryd.f3 false true false false) := by
  refine returnsInHanded_of_change_and (C := Tryd.checked) (X := fun w _ => laidMetH Tryd.prog laidL w) (fun _ _ _ hh h => h.of_heap hh) own started (by kernel_rfl) Tryd.func3
    (ChangeSpec.witness_shaped (enc := enc) (C := Tryd.checked) (os := os) (X := fun w _ => laidMetH Tryd.prog laidL w) false (World.doorLaid Tryd.prog 400 os) #[.int .i64 0, .slice none 0 0] 8 rfl (World.shaped_of_RefB (by kernel_rfl) (by kernel_rfl)) (by kernel_rfl) (by kernel_rfl) (by kernel_rfl) (door_met os _)) ?_
  intro W base args ds gs before hval0 hW _ _ hL _
  have hval : ∀ (j : Nat) t v, Tryd.f3.params[j]? = some t → args[j]? = some v → Value.okWide Tryd.prog W .any base t v := hval0
  have hW' := hW
  have hlt := fun x hx => hW.lt x hx
  obtain ⟨p, q, hA0, hV, rfl, hfz, hnd⟩ := hW
  have hA : DataW.TrodAll enc Tryd.prog W 0 (fun _ => true) true Tryd.f3.params.toList args.toList ds p := hA0
  rw [Tryd.params3] at hA hval
  obtain ⟨v0, vs0, d0, ds0, p0, q0, hargs, rfl, rfl, h0, r0⟩ := trodAll_cons hA
  obtain ⟨v1, vs1, d1, ds1, p1, q1, rfl, rfl, rfl, h1, r1⟩ := trodAll_cons r0
  obtain ⟨rfl, rfl, rfl⟩ := trodAll_nil r1
  obtain rfl : args = #[v0, v1] := by cases args; simp_all
  obtain ⟨rfl, rfl⟩ := trodVars_none hV
  obtain ⟨n0, rfl, rfl, rfl, w0⟩ := open_int Tryd.underlying3 (hval 0 3 v0 rfl rfl) h0
  obtain ⟨a, n, cap, rfl, hcase⟩ := open_elems (P := Tryd.prog) (w := W) (t := 32) (k := 3) (α := De W) deCells Tryd.underlying22 cells32 (by omega) (fun _ => rfl) (fun hl h => de_of_trod Tryd.underlying32 (by kernel_rfl) cells32 Tryd.underlying3 Tryd.underlying3 Tryd.underlying30 Tryd.underlying3 cells3 h) (hval 1 22 v1 rfl rfl) h1
  clear hA0 hval0
  simp only [List.append_nil, List.nil_append] at hW' hlt
  refine (plays_walk n0 w0 a n cap W hcase (tab_of_laid hL)).mono fun e W' ⟨he, hg⟩ => ?_
  subst he
  have hb : Below W.heap.size W W' := hg.below (Nat.le_refl _) (fun _ _ z => z)
  have ha : DataW.TrodAll enc Tryd.prog W' 0 (fun b => decide (b < W.heap.size)) true [3, 22] [.int .i64 n0, .slice a n cap] [.lit (.int .i64 n0), d1] ([] ++ (p1 ++ [])) := trodAll_cons_mk (shut_int Tryd.underlying3 w0) (trodAll_cons_mk (hb.trod laidOut readable22 lt22 h1 hlt) trodAll_mk0)
  simp only [List.nil_append, List.append_nil] at ha
  exact ⟨_, rfl, _, _, _, [], p1, [], hW', trodAll_cons_mk (shut_bool Tryd.underlying4 _) trodAll_mk0, ha, rfl, hb.frame _, fun h => by cases h⟩

theorem over : Rows.SeatPlaysSaid :=
  OpenClaim.holds_of_wide 3 Tryd.f3 rfl rfl rfl rfl rfl rfl rfl ⟨rfl, rfl, rfl, rfl, rfl⟩ rfl rfl rfl rfl rfl (by kernel_rfl) Tryd.func3 (by kernel_rfl)
    (of_decide_eq_true (by kernel_rfl)) (by unfold Func.isWrapper; first | (rw [if_pos (by decide +kernel)]; kernel_rfl) | (rw [if_neg (by decide +kernel)]; exact ⟨rfl, rfl⟩))
    (fun os started H enc _ => lifted os started H enc)

/-- ████ THE STATEMENT: the tied card ████ -/
theorem proved : Rows.SeatPlaysCardSaid :=
  Claim7.holds_tied_plain_at .later [] [.data] true (true, "c4600964e4bdda8592b0d93be4c0abefb093dce3be78cfba91cea62973304a82") false
    over (fun _ h => by cases h) (by kernel_rfl) (fun _ h => by cases h) seatPlays_row_tie rfl ⟨rfl, rfl⟩ (by kernel_rfl) rfl
    (fun f fn hf hfn => by
      obtain rfl : f = 3 := Option.some.inj ((show Tryd.prog.funcNamed "evenhanded/evenhandedlaw14.SeatPlays" = some 3 by kernel_rfl).symm.trans hf) |>.symm
      obtain rfl : fn = Tryd.f3 := (Option.some.inj (Tryd.func3.symm.trans hfn)).symm
      exact ⟨by kernel_rfl, fun j t ht => by
        rw [Tryd.params3] at ht
        rcases j with _ | _ | j
        · obtain rfl : t = 3 := by simpa using ht.symm
          exact (show Tryd.prog.wantsStandIn 3 = false by kernel_rfl)
        · obtain rfl : t = 22 := by simpa using ht.symm
          exact (show Tryd.prog.wantsStandIn 22 = false by kernel_rfl)
        · simp at ht⟩)
    (by kernel_rfl)
#print axioms proved
end Go.Proofs.YtnmdidglfegdcaaDoor.seatPlays
