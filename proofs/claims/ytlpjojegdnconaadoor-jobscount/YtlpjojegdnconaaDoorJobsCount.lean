/- The law JobsCount of package evenhandedlaw12 answers true for every input: a periodic task has one job behind another, a sporadic one just those that it asked for. Condition: the library's table math/bits.deBruijn64tab is as the program's text lays it (the card ties it). -/
import Derived.Test.YtlpjojegdnconaaDoorV6
import Derived.Test.YtlpjojegdnconaaDoorX1
import Derived.Test.YtlpjojegdnconaaDoorS5
import Derived.Test.YtlpjojegdnconaaDoorCards
import Derived.Test.YtlpjojegdnconaaDoorTie
import Derived.Lib.SmallJoins
import Derived.Deep.Slices
namespace Go.Proofs.YtlpjojegdnconaaDoor.jobsCount
open Go.ChangeShapes Go.WideShapes Go.ChangeAt Go.RowKit Go.Joins Go.Deep
open Ca (Gr)
set_option linter.unusedVariables false

theorem laidOut : laidOutB Tryd.prog = true := by kernel_rfl
theorem readable55 : Tryd.prog.readableRec 55 = true := by kernel_rfl
theorem lt55 : 55 < Tryd.prog.types.size := of_decide_eq_true (by kernel_rfl)
theorem cells4 : Tryd.prog.cellsOf 4 = 1 := by kernel_rfl
theorem walk (e p : Nat) (he : e < 256) (hp : p < 256) (a : Option Addr) (n cap : Nat) (w : World) (h : ElemsIn w 1 boCells a n) (hT : Tab w) : Calls Tryd.prog 5 #[.int .u8 e, .int .u8 p, .slice a n cap] w fun x w' => x = .returned (.bool true) ∧ Gr w w' := by
  refine count_walk a n cap e p he hp w ?_ hT
  rcases h with h | ⟨b, off, q, ha, hb, hq⟩
  · exact .inl h
  · refine .inr ⟨b, off, fun i => (q i).b, ha, hb, fun i hi => ?_⟩
    have := hq i hi 0 (by omega)
    simpa [boCells] using this

set_option maxRecDepth 100000 in
theorem lifted (os : Os) (started : os.Started) (H : Type) (enc : TypeId × Value → H) :
    ReturnsInHanded {} Tryd.checked os 5 .any (fun w args => (Rows.jobsCountSpec.pre enc Tryd.prog Tryd.f5 [] false w args ∧ laidMetH Tryd.prog laidL w) ∧ sizedMet enc Tryd.prog Tryd.f5 (OpenSpec.ofChange Rows.jobsCountSpec) false w args)
      (Rows.jobsCountSpec.post enc Tryd.prog Tryd.f5 false true false false) := by
  refine returnsInHanded_of_change_and (C := Tryd.checked) (X := fun w _ => laidMetH Tryd.prog laidL w) (fun _ _ _ hh h => h.of_heap hh) own started (by kernel_rfl) Tryd.func5
    (ChangeSpec.witness_shaped (enc := enc) (C := Tryd.checked) (os := os) (X := fun w _ => laidMetH Tryd.prog laidL w) false (World.doorLaid Tryd.prog 400 os) #[.int .u8 0, .int .u8 0, .slice none 0 0] 8 rfl (World.shaped_of_RefB (by kernel_rfl) (by kernel_rfl)) (by kernel_rfl) (by kernel_rfl) (by kernel_rfl) (door_met os _)) ?_
  intro W base args ds gs before hval0 hW _ _ hL _
  have hval : ∀ (j : Nat) t v, Tryd.f5.params[j]? = some t → args[j]? = some v → Value.okWide Tryd.prog W .any base t v := hval0
  have hW' := hW
  have hlt := fun x hx => hW.lt x hx
  obtain ⟨p, q, hA0, hV, rfl, hfz, hnd⟩ := hW
  have hA : DataW.TrodAll enc Tryd.prog W 0 (fun _ => true) true Tryd.f5.params.toList args.toList ds p := hA0
  rw [Tryd.params5] at hA hval
  obtain ⟨v0, vs0, d0, ds0, p0, q0, hargs, rfl, rfl, h0, r0⟩ := trodAll_cons hA
  obtain ⟨v1, vs1, d1, ds1, p1, q1, rfl, rfl, rfl, h1, r1⟩ := trodAll_cons r0
  obtain ⟨v2, vs2, d2, ds2, p2, q2, rfl, rfl, rfl, h2, r2⟩ := trodAll_cons r1
  obtain ⟨rfl, rfl, rfl⟩ := trodAll_nil r2
  obtain rfl : args = #[v0, v1, v2] := by cases args; simp_all
  obtain ⟨rfl, rfl⟩ := trodVars_none hV
  obtain ⟨n0, rfl, rfl, rfl, w0⟩ := open_int Tryd.underlying5 (hval 0 5 v0 rfl rfl) h0
  obtain ⟨n1, rfl, rfl, rfl, w1⟩ := open_int Tryd.underlying5 (hval 1 5 v1 rfl rfl) h1
  obtain ⟨a, n, cap, rfl, hcase⟩ := open_elems (P := Tryd.prog) (t := 4) (k := 1) boCells Tryd.underlying55 cells4 (by omega) (fun _ => rfl) (fun hl h => bo_of_trod Tryd.underlying4 cells4 hl h) (hval 2 55 v2 rfl rfl) h2
  clear hA0 hval0
  simp only [List.append_nil, List.nil_append] at hW' hlt
  obtain ⟨m0, rfl, hm0⟩ := u8_nat w0
  obtain ⟨m1, rfl, hm1⟩ := u8_nat w1
  refine (walk m0 m1 hm0 hm1 a n cap W hcase (tab_of_laid hL)).mono fun e W' ⟨he, hg⟩ => ?_
  subst he
  have hb : Below W.heap.size W W' := hg.below (Nat.le_refl _) (fun _ _ z => z)
  have ha : DataW.TrodAll enc Tryd.prog W' 0 (fun b => decide (b < W.heap.size)) true [5, 5, 55] [.int .u8 m0, .int .u8 m1, .slice a n cap] [.lit (.int .u8 m0), .lit (.int .u8 m1), d2] ([] ++ ([] ++ (p2 ++ []))) := trodAll_cons_mk (shut_int Tryd.underlying5 w0) (trodAll_cons_mk (shut_int Tryd.underlying5 w1) (trodAll_cons_mk (hb.trod laidOut readable55 lt55 h2 hlt) trodAll_mk0))
  simp only [List.nil_append, List.append_nil] at ha
  exact ⟨_, rfl, _, _, _, [], p2, [], hW', trodAll_cons_mk (shut_bool Tryd.underlying4 _) trodAll_mk0, ha, rfl, hb.frame _, fun h => by cases h⟩

theorem over : Rows.JobsCountSaid :=
  OpenClaim.holds_of_wide 5 Tryd.f5 rfl rfl rfl rfl rfl rfl rfl ⟨rfl, rfl, rfl, rfl, rfl⟩ rfl rfl rfl rfl rfl (by kernel_rfl) Tryd.func5 (by kernel_rfl)
    (of_decide_eq_true (by kernel_rfl)) (by unfold Func.isWrapper; first | (rw [if_pos (by decide +kernel)]; kernel_rfl) | (rw [if_neg (by decide +kernel)]; exact ⟨rfl, rfl⟩))
    (fun os started H enc _ => lifted os started H enc)

/-- ████ THE STATEMENT: the tied card ████ -/
theorem proved : Rows.JobsCountCardSaid :=
  Claim7.holds_tied_plain_at .later [] [.data] true (true, "b9fc57ab5f1ac32a19b91723e8f3181397b16ad2c6c8c6eff3cea18c13434adb") false
    over (fun _ h => by cases h) (by kernel_rfl) (fun _ h => by cases h) jobsCount_row_tie rfl ⟨rfl, rfl⟩ (by kernel_rfl) rfl
    (fun f fn hf hfn => by
      obtain rfl : f = 5 := Option.some.inj ((show Tryd.prog.funcNamed "evenhanded/evenhandedlaw12.JobsCount" = some 5 by kernel_rfl).symm.trans hf) |>.symm
      obtain rfl : fn = Tryd.f5 := (Option.some.inj (Tryd.func5.symm.trans hfn)).symm
      exact ⟨by kernel_rfl, fun j t ht => by
        rw [Tryd.params5] at ht
        rcases j with _ | _ | _ | j
        · obtain rfl : t = 5 := by simpa using ht.symm
          exact (show Tryd.prog.wantsStandIn 5 = false by kernel_rfl)
        · obtain rfl : t = 5 := by simpa using ht.symm
          exact (show Tryd.prog.wantsStandIn 5 = false by kernel_rfl)
        · obtain rfl : t = 55 := by simpa using ht.symm
          exact (show Tryd.prog.wantsStandIn 55 = false by kernel_rfl)
        · simp at ht⟩)
    (by kernel_rfl)
#print axioms proved
end Go.Proofs.YtlpjojegdnconaaDoor.jobsCount
