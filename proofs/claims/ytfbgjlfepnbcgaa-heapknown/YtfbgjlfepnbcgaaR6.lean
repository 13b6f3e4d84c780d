/- The law HeapKnown walked. -/
import Derived.Test.YtfbgjlfepnbcgaaO6
import Derived.Test.YtfbgjlfepnbcgaaP6
namespace Go.Proofs.Ytfbgjlfepnbcgaa
open Go.RowKit Go.Lib
set_option linter.unusedVariables false

/-- Two heaps beside each other. -/
structure Two (w0 w : World) (p : Nat) (k : Int) (F : Nat → Prop) (n : Nat) (M : Nat → Option Rk) (p' : Nat) (k' : Int) (F' : Nat → Prop) (n' : Nat) (M' : Nat → Option Rk) : Prop where
  a : Hl w0 w p k F n M
  b : Hl w0 w p' k' F' n' M'
  ne : ∀ j, F j → ¬ F' j
section
variable {w0 w w' : World} {p p' : Nat} {k k' : Int} {F G H : Nat → Prop} {n m n' : Nat} {M N M' : Nat → Option Rk}
theorem Two.fst (h : Two w0 w p k F n M p' k' G m N) (a : Hl w0 w' p k H n' M') (v : Sv F H w w') : Two w0 w' p k H n' M' p' k' G m N := by
  refine ⟨a, ⟨h.b.st.ke v.ke (fun j hj q => h.ne j q hj), a.below⟩, fun j hj q => ?_⟩
  rcases v.ft j hj with e | e
  · exact h.ne j e q
  · have := (h.b.st.lt q).2; omega
theorem Two.snd (h : Two w0 w p k F n M p' k' G m N) (a : Hl w0 w' p' k' H n' M') (v : Sv G H w w') : Two w0 w' p k F n M p' k' H n' M' := by
  refine ⟨⟨h.a.st.ke v.ke (fun j hj q => h.ne j hj q), a.below⟩, a, fun j hj q => ?_⟩
  rcases v.ft j q with e | e
  · exact h.ne j hj e
  · have := (h.a.st.lt hj).2; omega
theorem Two.gr (h : Two w0 w p k F n M p' k' G m N) (g : Gr w w') : Two w0 w' p k F n M p' k' G m N := ⟨h.a.gr g, h.b.gr g, h.ne⟩
end
theorem first_one {k : Int} {M : Nat → Option Rk} {s : Nat} {r : Rk} (h : M s = some r) (ho : ∀ s', s' ≠ s → M s' = none) : First k M s r :=
  ⟨h, fun s' r' h' hne => by rw [ho s' hne] at h'; cases h'⟩

set_option maxRecDepth 100000 in
set_option maxHeartbeats 2000000 in
theorem known_walk (w : World) : Calls Try.prog 6 #[] w fun e w' => e = .returned (.bool true) ∧ Below w.heap.size w w' := by
  have CA := Lib.hid (awake_true w)
  have CM := Lib.hid made_any
  have mixed : Try.prog.follows .mixedOrders = true := by kernel_rfl
  go_enter Try.func6, Try.ntmps6
  go_wp2_with fail
  refine CA.out.mono ?_
  rintro e w1 ⟨rfl, B1⟩
  have C := Lib.hid (hl_new B1 1)
  clear CA B1
  go_wp2_with fail
  refine C.out.mono ?_
  rintro e w2 ⟨rfl, H2, g2⟩
  have hlt := H2.st.lt (g := w1.heap.size) rfl
  have HH := Lib.hid H2
  have C := Lib.hid (hl_new H2.below 77)
  clear H2 g2
  go_wp2_with fail
  refine C.out.mono ?_
  rintro e w3 ⟨rfl, H3, g3⟩
  have T : Hid (Two w w3 w1.heap.size 1 (fun g => g = w1.heap.size) 0 (fun _ => none) w2.heap.size 77 (fun g => g = w2.heap.size) 0 (fun _ => none)) := ⟨HH.out.gr g3, H3, fun j e1 e2 => by omega⟩
  clear C H3 g3 HH hlt
  generalize w1.heap.size = p1 at *
  generalize w2.heap.size = p2 at *
  generalize (fun g => g = p1) = F1 at *
  generalize (fun g => g = p2) = F2 at *
  go_wp2_with fail
  refine (CM.out ⟨5, 0, 0, 1⟩ _).mono ?_
  rintro e w4 ⟨rfl, g4⟩
  have T4 := Lib.hid (T.out.gr g4)
  clear T g4
  clear C
  go_upto_region 8 with fail
  obtain ⟨w5, hw5⟩ : ∃ w5, w5 = w4.alloc (.cells #[.int .i64 5, .int .i64 0, .int .i64 0, .int .i64 1] 33) := ⟨_, rfl⟩
  have T5 : Hid (Two w w5 p1 1 F1 0 (fun _ => none) p2 77 F2 0 (fun _ => none)) := by rw [hw5]; exact T4.out.gr ((Ke.refl _ _).alloc _)
  have b0 : w5.cell? ⟨w4.heap.size, 0, none⟩ = some (.int .i64 5) := by rw [hw5]; simp [go_sem]
  have b1 : w5.cell? ⟨w4.heap.size, 1, none⟩ = some (.int .i64 0) := by rw [hw5]; simp [go_sem]
  have b2 : w5.cell? ⟨w4.heap.size, 2, none⟩ = some (.int .i64 0) := by rw [hw5]; simp [go_sem]
  have b3 : w5.cell? ⟨w4.heap.size, 3, none⟩ = some (.int .i64 1) := by rw [hw5]; simp [go_sem]
  have nb1 : ¬ F1 w4.heap.size := fun q => by have := (T4.out.a.st.lt q).2; omega
  rw [← hw5]
  have NB := Lib.hid nb1
  clear T4 hw5 nb1
  generalize w4.heap.size = B at *
  have kb0 := gw_cell b0
  have kb1 := gw_cell b1
  have kb2 := gw_cell b2
  have kb3 := gw_cell b3
  have CP : Hid (∀ s : Int, (s < 0 ∨ 65536 ≤ s) → ∀ W, Gr w5 W → Calls Try.prog 11 #[.pointer (some ⟨p1, 0, none⟩), .int .i64 s, .agg #[.int .i64 5, .int .i64 0, .int .i64 0, .int .i64 1]] W fun e w' => e = .returned (.int .i64 2) ∧ Gr W w') := fun s hs W g => st_put_bad (T5.out.a.st.gr g) s hs ⟨5, 0, 0, 1⟩
  have hne : Nonempty (GW w5) := ⟨⟨w5, Ke.refl _ _⟩⟩
  have hself := @gw_self w5
  have hself' : ∀ p : GW w5, ∃ q : GW w5, q.W = p.W := fun p => ⟨p, rfl⟩
  clear b0 b1 b2 b3
  refine wp_region_gw_tail 8 (by assumption) (by kernel_rfl) ?_
  simp only [List.take_succ_cons, List.take_zero, List.drop_succ_cons, List.drop_zero]
  repeat (go_big_quiet_step (first | (go_at_call 11; exact gw_of (CP.out _ (by omega) _ (GW.gr _)))))
  refine wpQuiet_nil ?_
  intro _ hw'
  obtain ⟨pp, hw''⟩ := hw'
  subst hw''
  have b0 := kb0 pp
  have b1 := kb1 pp
  have b2 := kb2 pp
  have b3 := kb3 pp
  have T6 := Lib.hid (T5.out.gr pp.gr)
  clear kb0 kb1 kb2 kb3 CP hne hself hself' T5
  generalize pp.W = w6 at *
  clear pp
  have C := Lib.hid (hl_put_new T6.out.a 65535 (by omega) ⟨5, 0, 0, 1⟩ rfl)
  go_wp2_with fail
  refine C.out.mono ?_
  rintro e w7 ⟨rfl, F7, H7, v7⟩
  have hB := lt_of_cell b0
  simp only at hB
  replace b0 := (v7.ke.cell (p := ⟨B, 0, none⟩) hB NB.out).trans b0
  replace b1 := (v7.ke.cell (p := ⟨B, 1, none⟩) hB NB.out).trans b1
  replace b2 := (v7.ke.cell (p := ⟨B, 2, none⟩) hB NB.out).trans b2
  replace b3 := (v7.ke.cell (p := ⟨B, 3, none⟩) hB NB.out).trans b3
  have T7 := Lib.hid (T6.out.fst H7 v7)
  clear C T6 H7 v7 NB hB
  have C := Lib.hid (hl_put_new T7.out.a 4 (by omega) ⟨5, 0, 0, 1⟩ (by rw [upd_other _ _ (by omega)]))
  go_wp2_with fail
  refine C.out.mono ?_
  rintro e w8 ⟨rfl, F8, H8, v8⟩
  have T8 := Lib.hid (T7.out.fst H8 v8)
  clear C T7 H8 v8 b0 b1 b2 b3
  have C := Lib.hid (hl_pop T8.out.a 4 ⟨5, 0, 0, 1⟩ (first_two (by omega) (by decide)))
  go_wp2_with fail
  refine C.out.mono ?_
  rintro e w9 ⟨rfl, H9, v9⟩
  have T9 := Lib.hid (T8.out.fst H9 v9)
  clear C T8 H9 v9
  have C := Lib.hid (fun W (g : Gr w9 W) => hl_pop (T9.out.gr g).a 65535 ⟨5, 0, 0, 1⟩ (first_one (by simp [upd]) (fun s' hs' => by
    unfold upd
    split
    · rfl
    · first
        | rfl
        | simp [hs'])))
  go_wp2_with fail
  refine (C.out _ ((Ke.refl _ _).alloc _)).mono ?_
  rintro e w10 ⟨rfl, H10, v10⟩
  have T10 := Lib.hid ((T9.out.gr ((Ke.refl _ _).alloc _)).fst H10 v10)
  clear C T9 H10 v10
  have C := Lib.hid (fun W (g : Gr w10 W) => hl_pop_none (T10.out.gr g).a)
  go_wp2_with fail
  refine (C.out _ ((Ke.refl _ _).alloc _)).mono ?_
  rintro e w11 ⟨rfl, H11, v11⟩
  have T11 := Lib.hid ((T10.out.gr ((Ke.refl _ _).alloc _)).fst H11 v11)
  clear C T10 H11 v11
  go_wp2_with fail
  refine (CM.out ⟨5, 0, 0, 0⟩ _).mono ?_
  rintro e w12 ⟨rfl, g12⟩
  have T12 := Lib.hid ((T11.out.gr ((Ke.refl _ _).alloc _)).gr g12)
  clear T11 g12
  have C := Lib.hid (hl_put_new T12.out.b 1 (by omega) ⟨5, 0, 0, 0⟩ rfl)
  go_wp2_with fail
  refine C.out.mono ?_
  rintro e w13 ⟨rfl, F13, H13, v13⟩
  have T13 := Lib.hid (T12.out.snd H13 v13)
  clear C T12 H13 v13
  go_wp2_with fail
  refine (CM.out ⟨5, 1, 0, 0⟩ _).mono ?_
  rintro e w14 ⟨rfl, g14⟩
  have T14 := Lib.hid (T13.out.gr g14)
  clear T13 g14
  have C := Lib.hid (hl_put_new T14.out.b 2 (by omega) ⟨5, 1, 0, 0⟩ (by rw [upd_other _ _ (by omega)]))
  go_wp2_with fail
  refine C.out.mono ?_
  rintro e w15 ⟨rfl, F15, H15, v15⟩
  have T15 := Lib.hid (T14.out.snd H15 v15)
  clear C T14 H15 v15
  have C := Lib.hid (hl_top T15.out.b 2 ⟨5, 1, 0, 0⟩ (first_two (by omega) (by decide)))
  go_wp2_with fail
  refine C.out.mono ?_
  rintro e w16 ⟨rfl, H16, v16⟩
  have T16 := Lib.hid (T15.out.snd H16 v16)
  clear C T15 H16 v16
  have C := Lib.hid (fun W (g : Gr w16 W) => hl_drop (T16.out.gr g).b 1 ⟨5, 0, 0, 0⟩ (by simp [upd]))
  go_wp2_with fail
  refine (C.out _ ((Ke.refl _ _).alloc _)).mono ?_
  rintro e w17 ⟨rfl, H17, v17⟩
  have T17 := Lib.hid ((T16.out.gr ((Ke.refl _ _).alloc _)).snd H17 v17)
  clear C T16 H17 v17
  have C := Lib.hid (hl_drop_none T17.out.b 1 (fun s hs => by
    obtain rfl : s = 1 := by omega
    exact upd_same _ _ _))
  go_wp2_with fail
  refine C.out.mono ?_
  rintro e w18 ⟨rfl, hw⟩
  obtain rfl := hw.symm
  clear C hw
  have C := Lib.hid (hl_len T17.out.b)
  go_wp2_with fail
  refine C.out.mono ?_
  rintro e w19 ⟨rfl, hw⟩
  obtain rfl := hw.symm
  clear C hw
  go_wp2
  go_ret
  exact ⟨rfl, T17.out.a.below⟩
end Go.Proofs.Ytfbgjlfepnbcgaa
