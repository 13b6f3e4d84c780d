/- The law LedgerPlays of package evenhandedlaw8 answers true for every input: whatever is added, dropped, asked: what may be, the exact sum, the multiple of all periods. No condition. -/
import Derived.Test.YtbimaaknjedonaaRows
import Derived.WalkKit
import Derived.ProofKit
import Derived.OpenShut
import Derived.ShutString
import Derived.ChangeOld
import Derived.Below
import Derived.Test.YtbimaaknjedonaaB3
import Derived.Test.YtbimaaknjedonaaD5
namespace Go.Proofs.Ytbimaaknjedonaa.ledgerPlays
open Go.ChangeShapes Go.WideShapes Go.ChangeAt Go.RowKit
set_option linter.unusedVariables false

theorem own : ownKnob Try.prog.godebug = none := by kernel_rfl
theorem laidOut : laidOutB Try.prog = true := by kernel_rfl
theorem readable22 : Try.prog.readableRec 22 = true := by kernel_rfl
theorem lt22 : 22 < Try.prog.types.size := of_decide_eq_true (by kernel_rfl)
theorem cells28 : Try.prog.cellsOf 28 = 4 := by kernel_rfl

theorem plays_none (cores : Int) (a : Option Addr) (c0 : Nat) (w : World) :
    Calls Try.prog 3 #[.int .i64 cores, .slice a 0 c0] w fun x w' => x = .returned (.bool true) ∧ Gr w w' := by
  go_enter Try.func3, Try.ntmps3
  go_wp2_with fail
  refine (awake8 _).mono ?_
  rintro x w1 ⟨rfl, g1⟩
  have G1 := Lib.hid g1
  clear g1
  go_wp2_with fail
  refine (new_any cores _).mono ?_
  rintro x w2 ⟨rfl, hw⟩
  subst hw
  go_wp2_with fail
  refine wp_loop_rounds 1 ?_
  rw [rounds_succ]
  go_wp2
  go_ret
  exact ⟨rfl, G1.out.alloc _⟩
theorem plays_big (cores : Int) (a : Option Addr) (n c0 : Nat) (w : World) (hn : 100 < n) :
    Calls Try.prog 3 #[.int .i64 cores, .slice a n c0] w fun x w' => x = .returned (.bool true) ∧ Gr w w' := by
  have d2 : decide ((100 : Int) < (n : Int)) = true := by simp; omega
  have d5 : (100 : Int) < (n : Int) := by omega
  go_enter Try.func3, Try.ntmps3
  go_wp2_with fail
  refine (awake8 _).mono ?_
  rintro x w1 ⟨rfl, g1⟩
  have G1 := Lib.hid g1
  clear g1
  go_wp2
  go_ret
  exact ⟨rfl, G1.out⟩

theorem walk (cores : Int) (a : Option Addr) (n c0 : Nat) (w : World) (h : ElemsIn w 4 deedCells a n) : Calls Try.prog 3 #[.int .i64 cores, .slice a n c0] w fun e w' => e = .returned (.bool true) ∧ Gr w w' := by
  by_cases h1 : 100 < n
  · exact plays_big cores a n c0 w h1
  · rcases h with h | ⟨b, off, q, ha, hb, hq⟩
    · subst h
      exact plays_none cores a c0 w
    · subst ha
      refine plays_walk cores b off n c0 q w (by omega) (fun i hi => ⟨?_, ?_, ?_, ?_⟩)
      · have := hq i hi 0 (by omega)
        simpa [deedCells] using this
      · have := hq i hi 1 (by omega)
        simpa [deedCells] using this
      · have := hq i hi 2 (by omega)
        simpa [deedCells] using this
      · have := hq i hi 3 (by omega)
        simpa [deedCells] using this

/-! ### THE ROW's STEP -/
set_option maxRecDepth 100000 in
theorem lifted (os : Os) (started : os.Started) (H : Type) (enc : TypeId × Value → H) :
    ReturnsInHanded {} Try.checked os 3 .any (Rows.ledgerPlaysSpec.pre6 enc Try.prog Try.f3 Rows.ledgerPlaysRow.domain false) (Rows.ledgerPlaysSpec.post enc Try.prog Try.f3 false true false false) := by
  refine returnsInHanded_of_change (C := Try.checked) own started (by kernel_rfl) Try.func3
    (ChangeSpec.witness6 (enc := enc) (C := Try.checked) false ⟨#[], #[.int .i64 0, .slice none 0 0], []⟩ 8 (by kernel_rfl) (by kernel_rfl) (by kernel_rfl) (by kernel_rfl)) ?_
  intro W base args ds gs before hval0 hW hcnd _
  have hval : ∀ (j : Nat) t v, Try.f3.params[j]? = some t → args[j]? = some v → Value.okWide Try.prog W .any base t v := hval0
  have hW' := hW
  have hlt := fun x hx => hW.lt x hx
  obtain ⟨p, q, hA0, hV, rfl, hfz, hnd⟩ := hW
  have hA : DataW.TrodAll enc Try.prog W 0 (fun _ => true) true Try.f3.params.toList args.toList ds p := hA0
  rw [Try.params3] at hA hval
  obtain ⟨v0, vs0, d0, ds0, p0, q0, hargs, rfl, rfl, h0, r0⟩ := trodAll_cons hA
  obtain ⟨v1, vs1, d1, ds1, p1, q1, rfl, rfl, rfl, h1, r1⟩ := trodAll_cons r0
  obtain ⟨rfl, rfl, rfl⟩ := trodAll_nil r1
  obtain rfl : args = #[v0, v1] := by cases args; simp_all
  obtain ⟨rfl, rfl⟩ := trodVars_none hV
  obtain ⟨k, rfl, rfl, rfl, wk⟩ := open_int Try.underlying3 (hval 0 3 v0 rfl rfl) h0
  obtain ⟨a, n, cap, rfl, hcase⟩ := open_elems (P := Try.prog) (t := 28) (k := 4) deedCells Try.underlying22 cells28 (by omega) (fun _ => rfl) (fun hl h => deed_of_trod Try.underlying28 (by kernel_rfl) cells28 Try.underlying3 Try.underlying3 Try.underlying3 Try.underlying3 h) (hval 1 22 v1 rfl rfl) h1
  clear hA0 hval0
  simp only [List.append_nil, List.nil_append] at hW' hlt
  refine (walk k a n cap W hcase).mono fun e W' ⟨he, hg⟩ => ?_
  subst he
  have ha : DataW.TrodAll enc Try.prog W' 0 (fun b => decide (b < W.heap.size)) true [3, 22] [.int .i64 k, .slice a n cap] [.lit (.int .i64 k), d1] ([] ++ (p1 ++ [])) := trodAll_cons_mk (shut_int Try.underlying3 wk) (trodAll_cons_mk (hg.trod (fun _ _ f => f) laidOut readable22 lt22 h1 hlt) trodAll_mk0)
  rw [List.append_nil, List.nil_append] at ha
  exact ⟨_, rfl, _, _, _, [], p1, [], hW', trodAll_cons_mk (shut_bool Try.underlying4 _) trodAll_mk0, ha, rfl, hg.frame (fun _ _ f => f) _, fun h => by cases h⟩

theorem over : Rows.ledgerPlaysRow.holds Try.pinned (OpenSpec.ofChange Rows.ledgerPlaysSpec) :=
  OpenClaim.holds_of_wide 3 Try.f3 rfl rfl rfl rfl rfl rfl rfl ⟨rfl, rfl, rfl, rfl, rfl⟩ rfl rfl rfl rfl rfl (by kernel_rfl) Try.func3 (by kernel_rfl)
    (of_decide_eq_true (by kernel_rfl)) (by unfold Func.isWrapper; first | (rw [if_pos (by decide +kernel)]; kernel_rfl) | (rw [if_neg (by decide +kernel)]; exact ⟨rfl, rfl⟩))
    (fun os started H enc _ => lifted os started H enc)

/-- ████ THE STATEMENT ████ -/
theorem proved : Rows.LedgerPlaysSaid :=
  over
#print axioms proved
end Go.Proofs.Ytbimaaknjedonaa.ledgerPlays
