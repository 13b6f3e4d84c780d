/- The law SeatStays of package evenhandedlaw14 answers true for every input: no two sit on one core; whoever sits twice in a row has the same core. Condition: the library's table math/bits.deBruijn64tab is as the program's text lays it (the card ties it). -/
import Derived.Test.YtnmdidglfegdcaaDoorE3
import Derived.Test.YtnmdidglfegdcaaDoorX1
import Derived.Test.YtnmdidglfegdcaaDoorS5
import Derived.Test.YtnmdidglfegdcaaDoorCards
import Derived.Test.YtnmdidglfegdcaaDoorTie
import Derived.Lib.SmallJoins
import Derived.Deep.Slices
namespace Go.Proofs.YtnmdidglfegdcaaDoor.seatStays
open Go.ChangeShapes Go.WideShapes Go.ChangeAt Go.RowKit Go.Joins Go.Deep
set_option linter.unusedVariables false

theorem laidOut : laidOutB Tryd.prog = true := by kernel_rfl
theorem readable42 : Tryd.prog.readableRec 42 = true := by kernel_rfl
theorem lt42 : 42 < Tryd.prog.types.size := of_decide_eq_true (by kernel_rfl)
theorem cells30 : Tryd.prog.cellsOf 30 = 1 := by kernel_rfl
theorem cells3 : Tryd.prog.cellsOf 3 = 1 := by kernel_rfl

set_option maxRecDepth 100000 in
theorem lifted (os : Os) (started : os.Started) (H : Type) (enc : TypeId × Value → H) :
    ReturnsInHanded {} Tryd.checked os 4 .any (fun w args => (Rows.seatStaysSpec.pre enc Tryd.prog Tryd.f4 [] false w args ∧ laidMetH Tryd.prog laidL w) ∧ sizedMet enc Tryd.prog Tryd.f4 (OpenSpec.ofChange Rows.seatStaysSpec) false w args)
      (Rows.seatStaysSpec.post enc Tryd.prog Tryd.f4 false true false false) := by
  refine returnsInHanded_of_change_and (C := Tryd.checked) (X := fun w _ => laidMetH Tryd.prog laidL w) (fun _ _ _ hh h => h.of_heap hh) own started (by kernel_rfl) Tryd.func4
    (ChangeSpec.witness_shaped (enc := enc) (C := Tryd.checked) (os := os) (X := fun w _ => laidMetH Tryd.prog laidL w) false (World.doorLaid Tryd.prog 400 os) #[.int .u8 0, .slice none 0 0] 8 rfl (World.shaped_of_RefB (by kernel_rfl) (by kernel_rfl)) (by kernel_rfl) (by kernel_rfl) (by kernel_rfl) (door_met os _)) ?_
  intro W base args ds gs before hval0 hW _ _ hL _
  have hval : ∀ (j : Nat) t v, Tryd.f4.params[j]? = some t → args[j]? = some v → Value.okWide Tryd.prog W .any base t v := hval0
  have hW' := hW
  have hlt := fun x hx => hW.lt x hx
  obtain ⟨p, q, hA0, hV, rfl, hfz, hnd⟩ := hW
  have hA : DataW.TrodAll enc Tryd.prog W 0 (fun _ => true) true Tryd.f4.params.toList args.toList ds p := hA0
  rw [Tryd.params4] at hA hval
  obtain ⟨v0, vs0, d0, ds0, p0, q0, hargs, rfl, rfl, h0, r0⟩ := trodAll_cons hA
  obtain ⟨v1, vs1, d1, ds1, p1, q1, rfl, rfl, rfl, h1, r1⟩ := trodAll_cons r0
  obtain ⟨rfl, rfl, rfl⟩ := trodAll_nil r1
  obtain rfl : args = #[v0, v1] := by cases args; simp_all
  obtain ⟨rfl, rfl⟩ := trodVars_none hV
  obtain ⟨n0, rfl, rfl, rfl, w0⟩ := open_int Tryd.underlying5 (hval 0 5 v0 rfl rfl) h0
  obtain ⟨a, n, cap, rfl, hcase⟩ := open_elems (P := Tryd.prog) (w := W) (t := 30) (k := 1) (α := Ro W) roCells Tryd.underlying42 cells30 (by omega) (fun _ => rfl) (fun hl h => ro_of_trod Tryd.underlying30 Tryd.underlying3 cells3 h) (hval 1 42 v1 rfl rfl) h1
  clear hA0 hval0
  simp only [List.append_nil, List.nil_append] at hW' hlt
  obtain ⟨m0, rfl, hm0⟩ := u8_nat w0
  refine (stays_walk m0 hm0 a n cap W hcase (tab_of_laid hL)).mono fun e W' ⟨he, hg⟩ => ?_
  subst he
  have hb : Below W.heap.size W W' := hg.below (Nat.le_refl _) (fun _ _ z => z)
  have ha : DataW.TrodAll enc Tryd.prog W' 0 (fun b => decide (b < W.heap.size)) true [5, 42] [.int .u8 m0, .slice a n cap] [.lit (.int .u8 m0), d1] ([] ++ (p1 ++ [])) := trodAll_cons_mk (shut_int Tryd.underlying5 w0) (trodAll_cons_mk (hb.trod laidOut readable42 lt42 h1 hlt) trodAll_mk0)
  simp only [List.nil_append, List.append_nil] at ha
  exact ⟨_, rfl, _, _, _, [], p1, [], hW', trodAll_cons_mk (shut_bool Tryd.underlying4 _) trodAll_mk0, ha, rfl, hb.frame _, fun h => by cases h⟩

theorem over : Rows.SeatStaysSaid :=
  OpenClaim.holds_of_wide 4 Tryd.f4 rfl rfl rfl rfl rfl rfl rfl ⟨rfl, rfl, rfl, rfl, rfl⟩ rfl rfl rfl rfl rfl (by kernel_rfl) Tryd.func4 (by kernel_rfl)
    (of_decide_eq_true (by kernel_rfl)) (by unfold Func.isWrapper; first | (rw [if_pos (by decide +kernel)]; kernel_rfl) | (rw [if_neg (by decide +kernel)]; exact ⟨rfl, rfl⟩))
    (fun os started H enc _ => lifted os started H enc)

/-- ████ THE STATEMENT: the tied card ████ -/
theorem proved : Rows.SeatStaysCardSaid :=
  Claim7.holds_tied_plain_at .later [] [.data] true (true, "c4600964e4bdda8592b0d93be4c0abefb093dce3be78cfba91cea62973304a82") false
    over (fun _ h => by cases h) (by kernel_rfl) (fun _ h => by cases h) seatStays_row_tie rfl ⟨rfl, rfl⟩ (by kernel_rfl) rfl
    (fun f fn hf hfn => by
      obtain rfl : f = 4 := Option.some.inj ((show Tryd.prog.funcNamed "evenhanded/evenhandedlaw14.SeatStays" = some 4 by kernel_rfl).symm.trans hf) |>.symm
      obtain rfl : fn = Tryd.f4 := (Option.some.inj (Tryd.func4.symm.trans hfn)).symm
      exact ⟨by kernel_rfl, fun j t ht => by
        rw [Tryd.params4] at ht
        rcases j with _ | _ | j
        · obtain rfl : t = 5 := by simpa using ht.symm
          exact (show Tryd.prog.wantsStandIn 5 = false by kernel_rfl)
        · obtain rfl : t = 42 := by simpa using ht.symm
          exact (show Tryd.prog.wantsStandIn 42 = false by kernel_rfl)
        · simp at ht⟩)
    (by kernel_rfl)
#print axioms proved
end Go.Proofs.YtnmdidglfegdcaaDoor.seatStays
