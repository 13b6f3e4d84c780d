/- The ledger as a law uses it; the document's example (awake). -/
import Derived.Test.YtbimaaknjedonaaA9
import Derived.Test.YtbimaaknjedonaaR8
namespace Go.Proofs.Ytbimaaknjedonaa
open Go.RowKit Go.Lib Go.Maps
set_option linter.unusedVariables false

/-- What is written lies in new memory: nothing that was there has turned. -/
theorem Ke.over {S : Nat → Prop} {w0 w w' : World} (h : Gr w0 w) (k : Ke S w w') (hS : ∀ g, S g → w0.heap.size ≤ g) : Gr w0 w' :=
  ⟨k.os.trans h.os, k.output.trans h.output, Nat.le_trans h.size k.size, fun j hj _ => (k.block j (Nat.lt_of_lt_of_le hj h.size) (fun q => by have := hS j q; omega)).trans (h.block j hj (fun f => f))⟩
/-- One ledger in a law that began at w0. -/
def LW (w0 w : World) (l : Nat) (k : Int) (L : List Wt) : Prop := ∃ S, Led w S l k L ∧ (∀ g, S g → w0.heap.size ≤ g) ∧ Gr w0 w
section
variable {w0 w : World} {l : Nat} {k : Int} {L : List Wt}
theorem lw_new {w0 w : World} (g : Gr w0 w) (c : Int) : LW w0 (w.alloc (LO c)) w.heap.size (cut c) [] := ⟨_, led_new c w, fun x hx => by cases hx; exact g.size, g.alloc _⟩
theorem LW.step {w' : World} (h : LW w0 w l k L) (g : Gr w w') : LW w0 w' l k L := by
  obtain ⟨S, a, b, c⟩ := h
  exact ⟨S, a.gr g, b, c.gr g⟩
theorem lw_can (h : LW w0 w l k L) (e p v : Int) (hv : canV k L e p = v) : Calls Try.prog 12 #[.pointer (some ⟨l, 0, none⟩), .int .i64 e, .int .i64 p] w fun x w' => x = .returned (.int .i64 v) ∧ LW w0 w' l k L := by
  obtain ⟨S, a, b, c⟩ := h
  exact (can_any a e p v hv).mono fun x w' ⟨q, g⟩ => ⟨q, S, a.gr g, b, c.gr g⟩
theorem lw_add (h : LW w0 w l k L) (i e p v : Int) (hi : (Lit.int .i64 i).wf = true) (hv : addV k L i e p = v) :
    Calls Try.prog 10 #[.pointer (some ⟨l, 0, none⟩), .int .i64 i, .int .i64 e, .int .i64 p] w fun x w' => x = .returned (.int .i64 v) ∧ LW w0 w' l k (if v = 0 then L ++ [⟨i, e, p⟩] else L) := by
  obtain ⟨S, a, b, c⟩ := h
  refine (add_any a i e p v hi hv).mono fun x w' ⟨q, S', a', g, s⟩ => ⟨q, S', a', fun z hz => ?_, Ke.over c g b⟩
  rcases s z hz with y | y
  · exact b z y
  · exact Nat.le_trans c.size y
theorem lw_drop (h : LW w0 w l k L) (i : Int) (hi : (Lit.int .i64 i).wf = true) (v : Bool) (hv : L.any (fun x => decide (x.id = i)) = v) :
    Calls Try.prog 11 #[.pointer (some ⟨l, 0, none⟩), .int .i64 i] w fun x w' => x = .returned (.bool v) ∧ LW w0 w' l k (remL i L) := by
  obtain ⟨S, a, b, c⟩ := h
  exact (drop_any a i hi v hv).mono fun x w' ⟨q, a', g⟩ => ⟨q, S, a', b, Ke.over c g b⟩
theorem lw_sum (h : LW w0 w l k L) {N D : Int} (hn : (sumL L).num = N) (hd : ((sumL L).den : Int) = D) : Calls Try.prog 14 #[.pointer (some ⟨l, 0, none⟩)] w fun x w' => x = .returned (.agg #[.int .i64 N, .int .i64 D]) ∧ LW w0 w' l k L := by
  obtain ⟨S, a, b, c⟩ := h
  exact (sum_any' a ⟨hn, hd, rfl⟩).mono fun x w' ⟨q, g⟩ => ⟨q, S, a.gr g, b, c.gr g⟩
theorem lw_lcm (h : LW w0 w l k L) {M : Int} (hm : ((lcmL L : Nat) : Int) = M) : Calls Try.prog 16 #[.pointer (some ⟨l, 0, none⟩)] w fun x w' => x = .returned (.int .i64 M) ∧ LW w0 w' l k L := by
  obtain ⟨S, a, b, c⟩ := h
  exact (lcm_any' a ⟨rfl, rfl, hm⟩).mono fun x w' ⟨q, g⟩ => ⟨q, S, a.gr g, b, c.gr g⟩
end
theorem aw1 : addV (cut 1) [] 1 1 3 = 0 := by decide +kernel
theorem aw2 : addV (cut 1) [⟨1, 1, 3⟩] 2 1 3 = 0 := by decide +kernel
theorem aw3 : addV (cut 1) [⟨1, 1, 3⟩, ⟨2, 1, 3⟩] 3 1 3 = 0 := by decide +kernel
theorem aw4 : (sumL [⟨1, 1, 3⟩, ⟨2, 1, 3⟩, ⟨3, 1, 3⟩]).num = 1 := by decide +kernel
theorem aw5 : ((sumL [⟨1, 1, 3⟩, ⟨2, 1, 3⟩, ⟨3, 1, 3⟩]).den : Int) = 1 := by decide +kernel
theorem aw6 : canV (cut 1) [⟨1, 1, 3⟩, ⟨2, 1, 3⟩, ⟨3, 1, 3⟩] 1 3 = 8 := by decide +kernel
theorem aw7 : ((lcmL [⟨1, 1, 3⟩, ⟨2, 1, 3⟩, ⟨3, 1, 3⟩] : Nat) : Int) = 3 := by decide +kernel
theorem wfi {i : Int} (h0 : -9223372036854775808 ≤ i) (h1 : i ≤ 9223372036854775807) : (Lit.int .i64 i).wf = true := WalkArith.wf_i64 (by omega)

set_option maxHeartbeats 1000000 in
theorem awake8 (w : World) : Calls Try.prog 7 #[] w fun x w' => x = .returned (.bool true) ∧ Gr w w' := by
  go_enter Try.func7, Try.ntmps7
  go_wp2_with fail
  refine (new_any 1 _).mono ?_
  rintro x w1 ⟨rfl, rfl⟩
  have H := Lib.hid (lw_new (Ke.refl _ w) 1)
  generalize w.alloc (LO 1) = w1 at H ⊢
  go_wp2_with fail
  refine (lw_add H.out 1 1 3 0 (wfi (by omega) (by omega)) aw1).mono ?_
  rintro x w2 ⟨rfl, h2⟩
  clear H
  have H := Lib.hid h2
  clear h2
  go_wp2_with fail
  refine (lw_add H.out 2 1 3 0 (wfi (by omega) (by omega)) aw2).mono ?_
  rintro x w3 ⟨rfl, h2⟩
  clear H
  have H := Lib.hid h2
  clear h2
  go_wp2_with fail
  refine (lw_add H.out 3 1 3 0 (wfi (by omega) (by omega)) aw3).mono ?_
  rintro x w4 ⟨rfl, h2⟩
  clear H
  have H := Lib.hid h2
  clear h2
  go_wp2_with fail
  refine (lw_sum H.out aw4 aw5).mono ?_
  rintro x w5 ⟨rfl, h2⟩
  clear H
  have H := Lib.hid h2
  clear h2
  go_wp2_with fail
  refine (lw_can H.out 1 3 8 aw6).mono ?_
  rintro x w6 ⟨rfl, h2⟩
  clear H
  have H := Lib.hid h2
  clear h2
  go_wp2_with fail
  refine (lw_lcm H.out aw7).mono ?_
  rintro x w7 ⟨rfl, h2⟩
  clear H
  have H := Lib.hid h2
  clear h2
  go_wp2
  go_ret
  obtain ⟨S, _, _, g⟩ := H.out
  exact ⟨rfl, g⟩
end Go.Proofs.Ytbimaaknjedonaa
