/- The law LedgerOrders of package evenhandedlaw8 answers true for every input: whatever the order in which weights are added and dropped, the sum is that of those that are there. No condition. -/
import Derived.Test.YtbimaaknjedonaaRows
import Derived.WalkKit
import Derived.ProofKit
import Derived.OpenShut
import Derived.ShutString
import Derived.ChangeOld
import Derived.Below
import Derived.Test.YtbimaaknjedonaaB3
import Derived.Test.YtbimaaknjedonaaC2
namespace Go.Proofs.Ytbimaaknjedonaa.ledgerOrders
open Go.ChangeShapes Go.WideShapes Go.ChangeAt Go.RowKit
set_option linter.unusedVariables false

theorem own : ownKnob Try.prog.godebug = none := by kernel_rfl
theorem laidOut : laidOutB Try.prog = true := by kernel_rfl
theorem readable44 : Try.prog.readableRec 44 = true := by kernel_rfl
theorem lt44 : 44 < Try.prog.types.size := of_decide_eq_true (by kernel_rfl)
theorem cells45 : Try.prog.cellsOf 45 = 2 := by kernel_rfl
theorem cells5 : Try.prog.cellsOf 5 = 1 := by kernel_rfl

theorem orders_none (a : Option Addr) (c0 : Nat) (t : Int) (w : World) :
    Calls Try.prog 5 #[.slice a 0 c0, .int .u8 t] w fun x w' => x = .returned (.bool true) ∧ Gr w w' := by
  go_enter Try.func5, Try.ntmps5
  go_wp2_with fail
  refine (awake8 _).mono ?_
  rintro x w1 ⟨rfl, g1⟩
  have cb1 : w1.cell? ⟨w.heap.size, 0, none⟩ = some (.slice a 0 c0) := kcell g1 (by simp [go_sem])
  have G1 : Hid (Gr w w1) := ((Ke.refl _ w).alloc _).gr g1
  clear g1
  go_wp2
  go_ret
  exact ⟨rfl, G1.out⟩
theorem orders_big (a : Option Addr) (n c0 : Nat) (t : Int) (w : World) (hn : 60 < n) :
    Calls Try.prog 5 #[.slice a n c0, .int .u8 t] w fun x w' => x = .returned (.bool true) ∧ Gr w w' := by
  have d1 : ((n : Int) == 0) = false := by simp; omega
  have d2 : decide ((60 : Int) < (n : Int)) = true := by simp; omega
  have d3 : ¬ (n : Int) = 0 := by omega
  have d4 : ¬ n = 0 := by omega
  have d5 : (60 : Int) < (n : Int) := by omega
  go_enter Try.func5, Try.ntmps5
  go_wp2_with fail
  refine (awake8 _).mono ?_
  rintro x w1 ⟨rfl, g1⟩
  have cb1 : w1.cell? ⟨w.heap.size, 0, none⟩ = some (.slice a n c0) := kcell g1 (by simp [go_sem])
  have G1 : Hid (Gr w w1) := ((Ke.refl _ w).alloc _).gr g1
  clear g1
  go_wp2
  go_ret
  exact ⟨rfl, G1.out⟩

theorem walk (a : Option Addr) (n c0 : Nat) (t : Int) (ht : 0 ≤ t ∧ t ≤ 255) (w : World) (h : ElemsIn w 2 prCells a n) : Calls Try.prog 5 #[.slice a n c0, .int .u8 t] w fun e w' => e = .returned (.bool true) ∧ Gr w w' := by
  by_cases h1 : 60 < n
  · exact orders_big a n c0 t w h1
  · rcases h with h | ⟨b, off, q, ha, hb, hq⟩
    · subst h
      exact orders_none a c0 t w
    · rcases Nat.eq_zero_or_pos n with h0 | h0
      · subst h0
        exact orders_none a c0 t w
      · subst ha
        obtain ⟨t', rfl⟩ := Int.eq_ofNat_of_zero_le ht.1
        refine orders_walk b off n c0 t' (fun i => (q i).a) (fun i => (q i).b) w h0 (by omega) (by omega) (fun i hi => ⟨?_, ?_, (q i).ha.1, (q i).ha.2, (q i).hb.1, (q i).hb.2⟩)
        · have := hq i hi 0 (by omega)
          simpa [prCells] using this
        · have := hq i hi 1 (by omega)
          simpa [prCells] using this

/-! ### THE ROW's STEP -/
set_option maxRecDepth 100000 in
theorem lifted (os : Os) (started : os.Started) (H : Type) (enc : TypeId × Value → H) :
    ReturnsInHanded {} Try.checked os 5 .any (Rows.ledgerOrdersSpec.pre6 enc Try.prog Try.f5 Rows.ledgerOrdersRow.domain false) (Rows.ledgerOrdersSpec.post enc Try.prog Try.f5 false true false false) := by
  refine returnsInHanded_of_change (C := Try.checked) own started (by kernel_rfl) Try.func5
    (ChangeSpec.witness6 (enc := enc) (C := Try.checked) false ⟨#[], #[.slice none 0 0, .int .u8 0], []⟩ 8 (by kernel_rfl) (by kernel_rfl) (by kernel_rfl) (by kernel_rfl)) ?_
  intro W base args ds gs before hval0 hW hcnd _
  have hval : ∀ (j : Nat) t v, Try.f5.params[j]? = some t → args[j]? = some v → Value.okWide Try.prog W .any base t v := hval0
  have hW' := hW
  have hlt := fun x hx => hW.lt x hx
  obtain ⟨p, q, hA0, hV, rfl, hfz, hnd⟩ := hW
  have hA : DataW.TrodAll enc Try.prog W 0 (fun _ => true) true Try.f5.params.toList args.toList ds p := hA0
  rw [Try.params5] at hA hval
  obtain ⟨v0, vs0, d0, ds0, p0, q0, hargs, rfl, rfl, h0, r0⟩ := trodAll_cons hA
  obtain ⟨v1, vs1, d1, ds1, p1, q1, rfl, rfl, rfl, h1, r1⟩ := trodAll_cons r0
  obtain ⟨rfl, rfl, rfl⟩ := trodAll_nil r1
  obtain rfl : args = #[v0, v1] := by cases args; simp_all
  obtain ⟨rfl, rfl⟩ := trodVars_none hV
  obtain ⟨k, rfl, rfl, rfl, wk⟩ := open_int Try.underlying5 (hval 1 5 v1 rfl rfl) h1
  obtain ⟨a, n, cap, rfl, hcase⟩ := open_elems (P := Try.prog) (t := 45) (k := 2) prCells Try.underlying44 cells45 (by omega) (fun _ => rfl) (fun hl h => pr_of_trod Try.underlying45 Try.underlying5 cells45 cells5 hl h) (hval 0 44 v0 rfl rfl) h0
  clear hA0 hval0
  simp only [List.append_nil] at hW' hlt
  refine (walk a n cap k (wf_u8 wk) W hcase).mono fun e W' ⟨he, hg⟩ => ?_
  subst he
  have ha : DataW.TrodAll enc Try.prog W' 0 (fun b => decide (b < W.heap.size)) true [44, 5] [.slice a n cap, .int .u8 k] [d0, .lit (.int .u8 k)] (p0 ++ ([] ++ [])) := trodAll_cons_mk (hg.trod (fun _ _ f => f) laidOut readable44 lt44 h0 hlt) (trodAll_cons_mk (shut_int Try.underlying5 wk) trodAll_mk0)
  rw [List.append_nil, List.append_nil] at ha
  exact ⟨_, rfl, _, _, _, [], p0, [], hW', trodAll_cons_mk (shut_bool Try.underlying4 _) trodAll_mk0, ha, rfl, hg.frame (fun _ _ f => f) _, fun h => by cases h⟩

theorem over : Rows.ledgerOrdersRow.holds Try.pinned (OpenSpec.ofChange Rows.ledgerOrdersSpec) :=
  OpenClaim.holds_of_wide 5 Try.f5 rfl rfl rfl rfl rfl rfl rfl ⟨rfl, rfl, rfl, rfl, rfl⟩ rfl rfl rfl rfl rfl (by kernel_rfl) Try.func5 (by kernel_rfl)
    (of_decide_eq_true (by kernel_rfl)) (by unfold Func.isWrapper; first | (rw [if_pos (by decide +kernel)]; kernel_rfl) | (rw [if_neg (by decide +kernel)]; exact ⟨rfl, rfl⟩))
    (fun os started H enc _ => lifted os started H enc)

/-- ████ THE STATEMENT ████ -/
theorem proved : Rows.LedgerOrdersSaid :=
  over
#print axioms proved
end Go.Proofs.Ytbimaaknjedonaa.ledgerOrders
