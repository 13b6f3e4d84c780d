/- Contract of the document's own Can (evenhandedref1). -/
import Derived.Test.YtbimaaknjedonaaD2
import Derived.Lib.AppendZerosOnto
namespace Go.Proofs.Ytbimaaknjedonaa
open Go.RowKit Go.Lib Go.Maps
set_option linter.unusedVariables false

theorem bd_start (W : World) : Bd W [] (.slice none 0 0) W := ⟨World.ownsRow_nil _ _ _ _, Ke.refl _ _⟩
/-- A row copied. -/
theorem ap0 {W : World} {a : Option Addr} {n cap : Nat} {A : List Wt} (m : Mr W a n cap A) (hn : n ≤ 1000) :
    ∃ v1 X1, (∀ ty, (Builtin.append_ #[26, 26] ty #[.slice none 0 0, .slice a n cap]).run Try.prog W = .ok v1 X1) ∧ Bd W A v1 X1 := by
  have q := ap3 m 0 (Nat.zero_le _) hn (bd_start W) (by simp) (.slice a n cap) (by
    rcases m.at_ with ⟨rfl, e⟩ | ⟨g, off, rfl, hl, hc⟩
    · have := m.nc
      obtain rfl : cap = 0 := e
      obtain rfl : n = 0 := by omega
      exact .inl ⟨rfl, rfl⟩
    · refine .inr ⟨g, off, ⟨g, off, none⟩, cap, rfl, by simp, fun j hj => ?_⟩
      unfold Addr.add; split <;> simp_all)
  simpa using q

set_option maxHeartbeats 2000000 in
theorem rcan_any {w : World} {a : Option Addr} {m c : Nat} {L : List Wt} {k : Int} (hm : Mr w a m c L) (ok : Okay k L) (hl : L.length ≤ 900) (e p v : Int) (hv : canV k L e p = v) :
    Calls Try.prog 9 #[.slice a m c, .int .i64 k, .int .i64 e, .int .i64 p] w fun x w' => x = .returned (.int .i64 v) ∧ Gr w w' := by
  by_cases hmay : 1 ≤ e ∧ e ≤ p ∧ p ≤ 1048575
  · have MB := Lib.hid (mayB_yes hmay)
    have hmL := hm.len
    obtain ⟨v1, X1, hr1, b1⟩ := ap0 hm (by omega)
    have HR1 : Hid (∀ ty, (Builtin.append_ #[26, 26] ty #[.slice none 0 0, .slice a m c]).run Try.prog w = .ok v1 X1) := hr1
    have g2 : Gr X1 (X1.alloc (.cells #[.int .i64 0, .int .i64 e, .int .i64 p] 30)) := (Ke.refl _ _).alloc _
    obtain ⟨v2, X2, hr2, b2⟩ := ap2 (b1.next g2) (by omega) ⟨0, e, p⟩ X1.heap.size (heap_alloc_new X1 _)
    have HR2 : Hid (∀ ty, (Builtin.append_ #[26, 26] ty #[v1, .slice (some ⟨X1.heap.size, 0, none⟩) 1 1]).run Try.prog (X1.alloc (.cells #[.int .i64 0, .int .i64 e, .int .i64 p] 30)) = .ok v2 X2) := hr2
    obtain ⟨a2, c2, ev, mr2⟩ := mr_of_row b2.row
    subst ev
    have hM : ∀ x ∈ L ++ [⟨0, e, p⟩], x.May := fun x hx => by
      rcases List.mem_append.1 hx with hx | hx
      · exact ok.may x hx
      · simp at hx; subst hx; exact ⟨hmay.1, hmay.2.1, hmay.2.2⟩
    have hlen : (L ++ [(⟨0, e, p⟩ : Wt)]).length ≤ 1000 := by simp; omega
    obtain ⟨n, hn⟩ : ∃ n, (L ++ [(⟨0, e, p⟩ : Wt)]).length = n := ⟨_, rfl⟩
    rw [hn] at mr2 HR2
    have CL := Lib.hid (rlcm_any mr2 hM hlen)
    have G2 := Lib.hid b2.gr
    have k0 := ok.k0
    have k1 := ok.k1
    rcases canV_cases k L e p with ⟨q, _⟩ | ⟨_, ⟨q, qv⟩ | ⟨q, r⟩⟩
    · exact absurd hmay q
    · have el : lcmC (L ++ [⟨0, e, p⟩]) = 16777217 := by unfold lcmC; rw [if_neg (by omega)]
      rw [el] at CL
      obtain rfl : (7 : Int) = v := qv.symm.trans hv
      clear hm hv hr1 hr2 b1 b2 g2 mr2 hM hlen hn q qv el hmay hmL ok
      go_enter Try.func9, Try.ntmps9
      go_wp2_with fail
      refine (tmay_any e p _).mono ?_
      rintro x w1 ⟨rfl, hw⟩
      subst hw
      rw [MB.out]
      go_wp2_with (at_builtin; (first | ((refine Lib.wpList_append_run _ rfl (.const (.slice none 0 0)) (.tmp 15) 26 26 rfl (.slice none 0 0) (.slice a m c) rfl rfl v1 X1 ?_ ?_); (· exact HR1.out _)) | ((refine Lib.wpList_append_run _ rfl (.tmp 16) (.tmp 20) 26 26 rfl v1 (.slice (some ⟨X1.heap.size, 0, none⟩) 1 1) rfl rfl (.slice a2 n c2) X2 ?_ ?_); (· exact HR2.out _))))
      refine CL.out.mono ?_
      rintro x w3 ⟨rfl, g3⟩
      have G3 := Lib.hid (G2.out.gr g3)
      clear g3
      go_wp2
      go_ret
      exact ⟨rfl, G3.out⟩
    · have el : lcmC (L ++ [⟨0, e, p⟩]) = ((lcmL (L ++ [⟨0, e, p⟩]) : Nat) : Int) := by unfold lcmC; rw [if_pos q]
      rw [el] at CL
      obtain ⟨N, D, M, t⟩ := Tot.of (L ++ [⟨0, e, p⟩])
      have tb := t.bd' ok hmay (by have := t.m; omega)
      rw [t.m] at CL
      have CS := Lib.hid (fun (W : World) (g : Gr X2 W) => rsum_any (mr2.gr g) hM hlen q t.n t.d)
      have n0 := tb.n0
      have n1 := tb.n1
      have d0 := tb.d0
      have d1 := tb.d1
      have m1 := tb.m1
      have dM : decide (16777216 < M) = false := by simp; omega
      obtain ⟨K, hK⟩ : ∃ K, k * D = K := ⟨_, rfl⟩
      have K0 : 0 ≤ K ∧ K ≤ 1073741824 := by
        rw [← hK]
        exact ⟨Int.mul_nonneg (by omega) (by omega), Int.le_trans (Int.mul_le_mul k1 d1 (by omega) (by omega)) (by omega)⟩
      rw [t.n, t.d, hK] at r
      have HRR := Lib.hid r
      clear hm hr1 hr2 b1 b2 g2 mr2 hM hlen hn q el hmay t tb r hmL ok
      rcases HRR.out with ⟨z, zv⟩ | ⟨z, zv⟩
      · obtain rfl : (8 : Int) = v := zv.symm.trans hv
        have dz : decide (K < N) = true := by simp [z]
        clear hv zv
        go_enter Try.func9, Try.ntmps9
        go_wp2_with fail
        refine (tmay_any e p _).mono ?_
        rintro x w1 ⟨rfl, hw⟩
        subst hw
        rw [MB.out]
        go_wp2_with (at_builtin; (first | ((refine Lib.wpList_append_run _ rfl (.const (.slice none 0 0)) (.tmp 15) 26 26 rfl (.slice none 0 0) (.slice a m c) rfl rfl v1 X1 ?_ ?_); (· exact HR1.out _)) | ((refine Lib.wpList_append_run _ rfl (.tmp 16) (.tmp 20) 26 26 rfl v1 (.slice (some ⟨X1.heap.size, 0, none⟩) 1 1) rfl rfl (.slice a2 n c2) X2 ?_ ?_); (· exact HR2.out _))))
        refine CL.out.mono ?_
        rintro x w3 ⟨rfl, g3⟩
        have G3 := Lib.hid g3
        clear g3
        go_wp2_with fail
        refine (CS.out _ G3.out).mono ?_
        rintro x w4 ⟨rfl, g4⟩
        have G4 := Lib.hid ((G2.out.gr G3.out).gr g4)
        clear g4
        go_wp2
        go_ret
        exact ⟨rfl, G4.out.alloc _⟩
      · obtain rfl : (0 : Int) = v := zv.symm.trans hv
        have dz : decide (K < N) = false := by simp; omega
        clear hv zv
        go_enter Try.func9, Try.ntmps9
        go_wp2_with fail
        refine (tmay_any e p _).mono ?_
        rintro x w1 ⟨rfl, hw⟩
        subst hw
        rw [MB.out]
        go_wp2_with (at_builtin; (first | ((refine Lib.wpList_append_run _ rfl (.const (.slice none 0 0)) (.tmp 15) 26 26 rfl (.slice none 0 0) (.slice a m c) rfl rfl v1 X1 ?_ ?_); (· exact HR1.out _)) | ((refine Lib.wpList_append_run _ rfl (.tmp 16) (.tmp 20) 26 26 rfl v1 (.slice (some ⟨X1.heap.size, 0, none⟩) 1 1) rfl rfl (.slice a2 n c2) X2 ?_ ?_); (· exact HR2.out _))))
        refine CL.out.mono ?_
        rintro x w3 ⟨rfl, g3⟩
        have G3 := Lib.hid g3
        clear g3
        go_wp2_with fail
        refine (CS.out _ G3.out).mono ?_
        rintro x w4 ⟨rfl, g4⟩
        have G4 := Lib.hid ((G2.out.gr G3.out).gr g4)
        clear g4
        go_wp2
        go_ret
        exact ⟨rfl, G4.out.alloc _⟩
  · rw [canV_arg hmay] at hv
    subst hv
    have MB := Lib.hid (mayB_no hmay)
    clear hm ok hmay
    go_enter Try.func9, Try.ntmps9
    go_wp2_with fail
    refine (tmay_any e p _).mono ?_
    rintro x w1 ⟨rfl, rfl⟩
    rw [MB.out]
    go_wp2
    go_ret
    exact ⟨rfl, Ke.refl _ _⟩
end Go.Proofs.Ytbimaaknjedonaa
