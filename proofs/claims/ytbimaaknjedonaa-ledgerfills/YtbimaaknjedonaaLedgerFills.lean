/- The law LedgerFills of package evenhandedlaw8 answers true for every input: weights of one period are taken until the cores are full, and not one part more. No condition. -/
import Derived.Test.YtbimaaknjedonaaRows
import Derived.WalkKit
import Derived.ProofKit
import Derived.OpenShut
import Derived.ShutString
import Derived.ChangeOld
import Derived.Below
import Derived.Test.YtbimaaknjedonaaB3
namespace Go.Proofs.Ytbimaaknjedonaa.ledgerFills
open Go.ChangeShapes Go.WideShapes Go.ChangeAt Go.RowKit
set_option linter.unusedVariables false

theorem own : ownKnob Try.prog.godebug = none := by kernel_rfl
theorem laidOut : laidOutB Try.prog = true := by kernel_rfl
theorem readable48 : Try.prog.readableRec 48 = true := by kernel_rfl
theorem lt48 : 48 < Try.prog.types.size := of_decide_eq_true (by kernel_rfl)
theorem cells5 : Try.prog.cellsOf 5 = 1 := by kernel_rfl

theorem fills_big (a : Option Addr) (m c0 : Nat) (cores p : Int) (hc : 0 ≤ cores ∧ cores ≤ 255) (hp : 0 ≤ p ∧ p ≤ 255) (w : World) (hm : 300 < m) :
    Calls Try.prog 6 #[.int .u8 cores, .int .u8 p, .slice a m c0] w fun x w' => x = .returned (.bool true) ∧ Gr w w' := by
  obtain ⟨r1, hr1⟩ : ∃ r, cores % 8 = r := ⟨_, rfl⟩
  obtain ⟨r2, hr2⟩ : ∃ r, p % 30 = r := ⟨_, rfl⟩
  have hr1' : cores.tmod 8 = r1 := by rw [Int.tmod_eq_emod_of_nonneg hc.1]; exact hr1
  have hr2' : p.tmod 30 = r2 := by rw [Int.tmod_eq_emod_of_nonneg hp.1]; exact hr2
  have b1 : 0 ≤ r1 ∧ r1 ≤ 7 := by omega
  have b2 : 0 ≤ r2 ∧ r2 ≤ 29 := by omega
  have hm3 : decide ((300 : Int) < (m : Int)) = true := by simp; omega
  go_enter Try.func6, Try.ntmps6
  go_wp2_with fail
  refine (awake8 _).mono ?_
  rintro x w1 ⟨rfl, g1⟩
  have G1 := Lib.hid g1
  clear g1
  go_wp2_with fail
  refine (new_any _ _).mono ?_
  rintro x w2 ⟨rfl, rfl⟩
  go_wp2
  go_ret
  exact ⟨rfl, G1.out.alloc _⟩

theorem walk (a : Option Addr) (n c0 : Nat) (cores p : Int) (hc : 0 ≤ cores ∧ cores ≤ 255) (hp : 0 ≤ p ∧ p ≤ 255) (w : World) (h : ElemsIn w 1 btCells a n) : Calls Try.prog 6 #[.int .u8 cores, .int .u8 p, .slice a n c0] w fun e w' => e = .returned (.bool true) ∧ Gr w w' := by
  by_cases h1 : 300 < n
  · exact fills_big a n c0 cores p hc hp w h1
  · rcases h with h | ⟨b, off, q, ha, hb, hq⟩
    · exact fills_walk a n c0 (fun _ => 0) cores p hc hp w (by omega) (.inl h)
    · refine fills_walk a n c0 (fun i => (q i).a) cores p hc hp w (by omega) (.inr ⟨b, off, ha, hb, fun i hi => ⟨?_, (q i).ha⟩⟩)
      have := hq i hi 0 (by omega)
      simpa [btCells] using this

/-! ### THE ROW's STEP -/
set_option maxRecDepth 100000 in
theorem lifted (os : Os) (started : os.Started) (H : Type) (enc : TypeId × Value → H) :
    ReturnsInHanded {} Try.checked os 6 .any (Rows.ledgerFillsSpec.pre6 enc Try.prog Try.f6 Rows.ledgerFillsRow.domain false) (Rows.ledgerFillsSpec.post enc Try.prog Try.f6 false true false false) := by
  refine returnsInHanded_of_change (C := Try.checked) own started (by kernel_rfl) Try.func6
    (ChangeSpec.witness6 (enc := enc) (C := Try.checked) false ⟨#[], #[.int .u8 0, .int .u8 0, .slice none 0 0], []⟩ 8 (by kernel_rfl) (by kernel_rfl) (by kernel_rfl) (by kernel_rfl)) ?_
  intro W base args ds gs before hval0 hW hcnd _
  have hval : ∀ (j : Nat) t v, Try.f6.params[j]? = some t → args[j]? = some v → Value.okWide Try.prog W .any base t v := hval0
  have hW' := hW
  have hlt := fun x hx => hW.lt x hx
  obtain ⟨p, q, hA0, hV, rfl, hfz, hnd⟩ := hW
  have hA : DataW.TrodAll enc Try.prog W 0 (fun _ => true) true Try.f6.params.toList args.toList ds p := hA0
  rw [Try.params6] at hA hval
  obtain ⟨v0, vs0, d0, ds0, p0, q0, hargs, rfl, rfl, h0, r0⟩ := trodAll_cons hA
  obtain ⟨v1, vs1, d1, ds1, p1, q1, rfl, rfl, rfl, h1, r1⟩ := trodAll_cons r0
  obtain ⟨v2, vs2, d2, ds2, p2, q2, rfl, rfl, rfl, h2, r2⟩ := trodAll_cons r1
  obtain ⟨rfl, rfl, rfl⟩ := trodAll_nil r2
  obtain rfl : args = #[v0, v1, v2] := by cases args; simp_all
  obtain ⟨rfl, rfl⟩ := trodVars_none hV
  obtain ⟨k0, rfl, rfl, rfl, wk0⟩ := open_int Try.underlying5 (hval 0 5 v0 rfl rfl) h0
  obtain ⟨k1, rfl, rfl, rfl, wk1⟩ := open_int Try.underlying5 (hval 1 5 v1 rfl rfl) h1
  obtain ⟨a, n, cap, rfl, hcase⟩ := open_elems (P := Try.prog) (t := 5) (k := 1) btCells Try.underlying48 cells5 (by omega) (fun _ => rfl) (fun hl h => bt_of_trod Try.underlying5 cells5 hl h) (hval 2 48 v2 rfl rfl) h2
  clear hA0 hval0
  simp only [List.append_nil, List.nil_append] at hW' hlt
  refine (walk a n cap k0 k1 (wf_u8 wk0) (wf_u8 wk1) W hcase).mono fun e W' ⟨he, hg⟩ => ?_
  subst he
  have ha : DataW.TrodAll enc Try.prog W' 0 (fun b => decide (b < W.heap.size)) true [5, 5, 48] [.int .u8 k0, .int .u8 k1, .slice a n cap] [.lit (.int .u8 k0), .lit (.int .u8 k1), d2] ([] ++ ([] ++ (p2 ++ []))) := trodAll_cons_mk (shut_int Try.underlying5 wk0) (trodAll_cons_mk (shut_int Try.underlying5 wk1) (trodAll_cons_mk (hg.trod (fun _ _ f => f) laidOut readable48 lt48 h2 hlt) trodAll_mk0))
  rw [List.append_nil, List.nil_append, List.nil_append] at ha
  exact ⟨_, rfl, _, _, _, [], p2, [], hW', trodAll_cons_mk (shut_bool Try.underlying4 _) trodAll_mk0, ha, rfl, hg.frame (fun _ _ f => f) _, fun h => by cases h⟩

theorem over : Rows.ledgerFillsRow.holds Try.pinned (OpenSpec.ofChange Rows.ledgerFillsSpec) :=
  OpenClaim.holds_of_wide 6 Try.f6 rfl rfl rfl rfl rfl rfl rfl ⟨rfl, rfl, rfl, rfl, rfl⟩ rfl rfl rfl rfl rfl (by kernel_rfl) Try.func6 (by kernel_rfl)
    (of_decide_eq_true (by kernel_rfl)) (by unfold Func.isWrapper; first | (rw [if_pos (by decide +kernel)]; kernel_rfl) | (rw [if_neg (by decide +kernel)]; exact ⟨rfl, rfl⟩))
    (fun os started H enc _ => lifted os started H enc)

/-- ████ THE STATEMENT ████ -/
theorem proved : Rows.LedgerFillsSaid :=
  over
#print axioms proved
end Go.Proofs.Ytbimaaknjedonaa.ledgerFills
