/- The law HeapAnew walked. -/
import Derived.Test.YtfbgjlfepnbcgaaS6
namespace Go.Proofs.Ytfbgjlfepnbcgaa
open Go.RowKit Go.Lib
set_option linter.unusedVariables false

set_option maxRecDepth 100000 in
set_option maxHeartbeats 2000000 in
theorem anew_big (a0 : Option Addr) (n0 c0 : Nat) (a1 : Option Addr) (n1 c1 : Nat) (w : World) (h : 200 < n0 ∨ n1 < n0) :
    Calls Try.prog 5 #[.slice a0 n0 c0, .slice a1 n1 c1] w fun e w' => e = .returned (.bool true) ∧ Below w.heap.size w w' := by
  have CA := Lib.hid (awake_true w)
  by_cases h1 : 200 < n0
  · have d1 : decide ((n0 : Int) > 200) = true := by simp; omega
    clear h
    go_enter Try.func5, Try.ntmps5
    go_wp2_with fail
    refine CA.out.mono ?_
    rintro e w1 ⟨rfl, B1⟩
    have BB := Lib.hid B1
    clear CA B1
    go_wp2
    go_ret
    exact ⟨rfl, BB.out⟩
  · have d1 : decide ((n0 : Int) > 200) = false := by simp; omega
    have d2 : n1 < n0 := by omega
    clear h
    go_enter Try.func5, Try.ntmps5
    go_wp2_with fail
    refine CA.out.mono ?_
    rintro e w1 ⟨rfl, B1⟩
    have BB := Lib.hid B1
    clear CA B1
    go_wp2
    go_ret
    exact ⟨rfl, BB.out⟩

theorem an_start {w0 w : World} {p : Nat} {k : Int} (h : Hl w0 w p 2 (fun g => g = p) 0 (fun _ => none)) : An w0 ((w.alloc (.cells #[.int .i64 0, .int .i64 0, .int .i64 0, .int .i64 0, .int .i64 0, .int .i64 0, .int .i64 0, .int .i64 0] 44)).alloc (.cells #[.bool false, .bool false, .bool false, .bool false, .bool false, .bool false, .bool false, .bool false] 45)) p (fun g => g = p) 0 (fun _ => none) w.heap.size (w.heap.size + 1) (fun _ => 0) (fun _ => false) := by
  have g1 : Gr w (w.alloc (.cells #[.int .i64 0, .int .i64 0, .int .i64 0, .int .i64 0, .int .i64 0, .int .i64 0, .int .i64 0, .int .i64 0] 44)) := (Ke.refl _ _).alloc _
  have hp := (h.st.lt (g := p) rfl).2
  refine { hl := (h.gr g1).gr ((Ke.refl _ _).alloc _), ra := ?_, ro := ?_, nA := by omega, nO := by omega, ao := by omega, bA := h.below.size, bO := Nat.le_trans h.below.size (by omega), mm := fun s => by simp }
  · refine World.rowIs.alloc ?_ _
    exact World.rowIs_alloc w #[.int .i64 0, .int .i64 0, .int .i64 0, .int .i64 0, .int .i64 0, .int .i64 0, .int .i64 0, .int .i64 0] 44 _ (fun i hi => by
      have : i < 8 := hi
      rcases (show i = 0 ∨ i = 1 ∨ i = 2 ∨ i = 3 ∨ i = 4 ∨ i = 5 ∨ i = 6 ∨ i = 7 by omega) with rfl | rfl | rfl | rfl | rfl | rfl | rfl | rfl <;> rfl)
  · have e := World.rowIs_alloc (w.alloc (.cells #[.int .i64 0, .int .i64 0, .int .i64 0, .int .i64 0, .int .i64 0, .int .i64 0, .int .i64 0, .int .i64 0] 44)) #[.bool false, .bool false, .bool false, .bool false, .bool false, .bool false, .bool false, .bool false] 45 (fun j => .bool ((fun _ => false) j)) (fun i hi => by
      have : i < 8 := hi
      rcases (show i = 0 ∨ i = 1 ∨ i = 2 ∨ i = 3 ∨ i = 4 ∨ i = 5 ∨ i = 6 ∨ i = 7 by omega) with rfl | rfl | rfl | rfl | rfl | rfl | rfl | rfl <;> rfl)
    have e2 : (w.alloc (.cells #[.int .i64 0, .int .i64 0, .int .i64 0, .int .i64 0, .int .i64 0, .int .i64 0, .int .i64 0, .int .i64 0] 44)).heap.size = w.heap.size + 1 := by simp
    rw [e2] at e
    exact e

set_option maxRecDepth 100000 in
set_option maxHeartbeats 2000000 in
theorem anew_walk (b0 o0 : Nat) (n0 c0 : Nat) (b1 o1 : Nat) (n1 c1 : Nat) (z0 z1 : Nat → Int) (w : World) (h2 : n0 ≤ 200) (h3 : n0 ≤ n1) (hb0 : b0 < w.heap.size) (hb1 : b1 < w.heap.size)
    (r0 : ∀ i, i < n0 → w.cell? ⟨b0, o0 + i, none⟩ = some (.int .u8 (z0 i)) ∧ (Lit.int .u8 (z0 i)).wf = true) (r1 : ∀ i, i < n0 → w.cell? ⟨b1, o1 + i, none⟩ = some (.int .i16 (z1 i)) ∧ (Lit.int .i16 (z1 i)).wf = true) :
    Calls Try.prog 5 #[.slice (some ⟨b0, o0, none⟩) n0 c0, .slice (some ⟨b1, o1, none⟩) n1 c1] w fun e w' => e = .returned (.bool true) ∧ Below w.heap.size w w' := by
  have CA := Lib.hid (awake_true w)
  have CM := Lib.hid made_any
  have R0 := Lib.hid r0
  have R1 := Lib.hid r1
  clear r0 r1
  have d1 : decide ((n0 : Int) > 200) = false := by simp; omega
  have d2 : ¬ n1 < n0 := by omega
  go_enter Try.func5, Try.ntmps5
  go_wp2_with fail
  refine CA.out.mono ?_
  rintro e w1 ⟨rfl, B1⟩
  have C := Lib.hid (hl_new B1 2)
  clear CA B1
  go_wp2_with fail
  refine C.out.mono ?_
  rintro e w2 ⟨rfl, H2, g2⟩
  have A2 := Lib.hid (an_start (k := 2) H2)
  clear C H2 g2
  generalize w1.heap.size = p at *
  go_wp2_with fail
  obtain ⟨A, hA⟩ : ∃ A, w2.heap.size = A := ⟨_, rfl⟩
  go_loopg [8, 9] n0 (fun kx s8 s9 wr => ∃ (i : Nat) (F : Nat → Prop) (n : Nat) (M : Nat → Option Rk) (at_ : Nat → Int) (on : Nat → Bool), s8 = .int .i64 n ∧ s9 = .int .i64 i ∧ i ≤ n0 ∧ n0 - i ≤ kx ∧ Aside (An w wr p F n M w2.heap.size (w2.heap.size + 1) at_ on))
  case atStart => exact ⟨0, _, 0, _, _, _, rfl, rfl, by omega, by omega, A2.out⟩
  case round =>
    clear A2 hA
    obtain ⟨i, F, n, M, at_, on, rfl, rfl, hi, hkx, AN⟩ := hrel
    generalize w2.heap.size = A at *
    by_cases hlt : i < n0
    · have hltz : (i : Int) < (n0 : Int) := by omega
      have hltz1 : (i : Int) < (n1 : Int) := by omega
      obtain ⟨cx, wx⟩ := R0.out i hlt
      obtain ⟨cd, wd⟩ := R1.out i hlt
      replace cx := (AN.out.hl.below.cell (p := ⟨b0, o0 + i, none⟩) hb0).trans cx
      replace cd := (AN.out.hl.below.cell (p := ⟨b1, o1 + i, none⟩) hb1).trans cd
      have hx := wf_u8 wx
      have hd := wf_i16 wd
      generalize z0 i = x at *
      generalize z1 i = d at *
      obtain ⟨k, hk⟩ : ∃ k : Nat, x % 8 = (k : Int) := ⟨(x % 8).toNat, by omega⟩
      have hk8 : k < 8 := by omega
      have hk8z : (k : Int) < 8 := by omega
      have e1 : IntKind.i64.wrap x = x := by rw [IntKind.wrap_i64]; omega
      have e2 : x.tmod 8 = (k : Int) := by rw [Int.tmod_eq_emod_of_nonneg (by omega)]; exact hk
      have e3 : IntKind.i64.wrap d = d := by rw [IntKind.wrap_i64]; omega
      clear wx wd
      have hn6 := Mem.n_le AN.out.hl.st
      go_wp2_with fail
      refine (CM.out ⟨d, 0, 0, 0⟩ _).mono ?_
      rintro e w3 ⟨rfl, g3⟩
      have A3 := Lib.hid (AN.out.gr g3)
      have nb1 : ¬ F b1 := fun q => by have := AN.out.hl.own b1 q; omega
      have C := Lib.hid (hl_put A3.out.hl k (by omega) ⟨d, 0, 0, 0⟩)
      replace cd := gcell g3 cd
      clear AN g3 cx
      go_wp2_with fail
      refine C.out.mono ?_
      rintro e w4 ⟨rfl, F4, H4, v4⟩
      replace cd := (v4.ke.cell (p := ⟨b1, o1 + i, none⟩) (lt_of_cell cd) nb1).trans cd
      have ra := row_ke A3.out.ra v4.ke A3.out.nA
      have ro := row_ke A3.out.ro v4.ke A3.out.nO
      have ca := ra.cell hk8
      have fa := ra.frozen k
      have co := ro.cell hk8
      have fo := ro.frozen k
      have A5 := Lib.hid (A3.out.put k hk8 d H4 v4)
      have MK := Lib.hid (A3.out.mm k)
      clear C A3 H4 v4 ra ro nb1
      obtain ⟨n5, hn5, hon⟩ : ∃ n5, n5 = more M n k ∧ (on k = false ∧ (n : Int) + 1 = (n5 : Int) ∨ on k = true ∧ (n : Int) = (n5 : Int)) := by
        refine ⟨_, rfl, ?_⟩
        cases q : on k
        · left; refine ⟨rfl, ?_⟩
          have := MK.out
          rw [q] at this
          simp [more, this]
        · right; refine ⟨rfl, ?_⟩
          have := MK.out
          rw [q] at this
          simp [more, this, hk8]
      rw [← hn5] at A5
      have hon5 : Hid (upd on k true k = true) := upd_same _ _ _
      have hn5' : n5 ≤ 65537 := by rcases hon with q | q <;> omega
      have AU : Hid (∃ at5 on5 M5, on5 k = true ∧ An w ((w4.setCell ⟨A, k, none⟩ (.int .i64 d)).setCell ⟨A + 1, k, none⟩ (.bool true)) p F4 n5 M5 A (A + 1) at5 on5) := ⟨_, _, _, hon5.out, A5.out⟩
      clear A5 MK hn5 hon5
      rcases hon with ⟨hon, em⟩ | ⟨hon, em⟩
      all_goals
        rw [hon] at co
        go_wp2_with fail
        clear cd ca fa co fo em hon
        obtain ⟨at5, on5, M5, hon5, A5⟩ := AU.out
        have HON := Lib.hid hon5
        clear AU hon5
        go_loopg [11, 12] 8 (fun ky s11 s12 wz => ∃ (j : Nat) (b : Int), s11 = .int .i64 b ∧ s12 = .int .i64 j ∧ j ≤ 8 ∧ 8 - j ≤ ky ∧ Aside (Best on5 at5 j b ∧ An w wz p F4 n5 M5 A (A + 1) at5 on5))
        case atStart => exact ⟨0, -1, rfl, rfl, by omega, by omega, Best.start _ _, A5⟩
        case round =>
          clear A5
          obtain ⟨j, b, rfl, rfl, hj, hky, BA⟩ := hrel
          by_cases hj8 : j < 8
          · have hj8z : (j : Int) < 8 := by omega
            have co := BA.out.2.ro.cell hj8
            have ca := BA.out.2.ra.cell hj8
            have hne : Nonempty (GW wr) := ⟨⟨wr, Ke.refl _ _⟩⟩
            have hself := @gw_self wr
            have hself' : ∀ p : GW wr, ∃ q : GW wr, q.W = p.W := fun p => ⟨p, rfl⟩
            have NX : Hid (∀ b', Best on5 at5 (j + 1) b' → ∀ W, Gr wr W → Best on5 at5 (j + 1) b' ∧ An w W p F4 n5 M5 A (A + 1) at5 on5) := fun b' hb W g => ⟨hb, BA.out.2.gr g⟩
            cases hoj : on5 j
            · rw [hoj] at co
              have kco := gw_cell co
              have hb := Lib.hid (BA.out.1.off hoj)
              clear co ca hoj BA
              go_wp2_with fail
              refine wp_region_gw (by kernel_rfl) (by kernel_rfl) ?_
              repeat (go_big_quiet_step (fail))
              refine wpQuiet_nil ?_
              intro _ hw'
              obtain ⟨pp, hw''⟩ := hw'
              subst hw''
              have N := Lib.hid (NX.out b hb.out pp.W pp.gr)
              clear kco hself hself' hne
              generalize pp.W = W5 at *
              go_wp2
              go_roundg (8 - (j + 1))
              case measure => omega
              case rel => exact ⟨j + 1, b, rfl, by go_num, by omega, by omega, N.out⟩
            · rw [hoj] at co
              rcases BA.out.1 with ⟨rfl, h0⟩ | ⟨c, rfl, hcj, hoc, hmin⟩
              · have hb := Lib.hid (Best.one BA.out.1 hoj)
                have db : decide ((-1 : Int) < 0) = true := by decide
                have kco := gw_cell co
                clear co ca hoj BA h0
                go_wp2_with fail
                refine wp_region_gw (by kernel_rfl) (by kernel_rfl) ?_
                repeat (go_big_quiet_step (fail))
                refine wpQuiet_nil ?_
                intro _ hw'
                obtain ⟨pp, hw''⟩ := hw'
                subst hw''
                have N := Lib.hid (NX.out _ hb.out pp.W pp.gr)
                clear kco hself hself' hne
                generalize pp.W = W5 at *
                go_wp2
                go_roundg (8 - (j + 1))
                case measure => omega
                case rel => exact ⟨j + 1, _, rfl, by go_num, by omega, by omega, N.out⟩
              · have db : decide ((c : Int) < 0) = false := by simp
                have hcz : (c : Int) < 8 := by omega
                have cc := BA.out.2.ra.cell (show c < 8 by omega)
                have kco := gw_cell co
                have kca := gw_cell ca
                have kcc := gw_cell cc
                by_cases hl : at5 j < at5 c
                · have dl : decide (at5 j < at5 c) = true := by simp [hl]
                  have hb := Lib.hid (Best.less BA.out.1 hoj hl)
                  clear co ca cc hoj BA hmin hoc hl
                  generalize at5 j = aj at *
                  generalize at5 c = ac at *
                  go_wp2_with fail
                  refine wp_region_gw (by kernel_rfl) (by kernel_rfl) ?_
                  repeat (go_big_quiet_step (fail))
                  refine wpQuiet_nil ?_
                  intro _ hw'
                  obtain ⟨pp, hw''⟩ := hw'
                  subst hw''
                  have N := Lib.hid (NX.out _ hb.out pp.W pp.gr)
                  clear kco kca kcc hself hself' hne
                  generalize pp.W = W5 at *
                  go_wp2
                  go_roundg (8 - (j + 1))
                  case measure => omega
                  case rel => exact ⟨j + 1, _, rfl, by go_num, by omega, by omega, N.out⟩
                · have dl : decide (at5 j < at5 c) = false := by simpa using hl
                  have hb := Lib.hid (Best.more BA.out.1 hl)
                  clear co ca cc hoj BA hmin hoc hl
                  generalize at5 j = aj at *
                  generalize at5 c = ac at *
                  go_wp2_with fail
                  refine wp_region_gw (by kernel_rfl) (by kernel_rfl) ?_
                  repeat (go_big_quiet_step (fail))
                  refine wpQuiet_nil ?_
                  intro _ hw'
                  obtain ⟨pp, hw''⟩ := hw'
                  subst hw''
                  have N := Lib.hid (NX.out _ hb.out pp.W pp.gr)
                  clear kco kca kcc hself hself' hne
                  generalize pp.W = W5 at *
                  go_wp2
                  go_roundg (8 - (j + 1))
                  case measure => omega
                  case rel => exact ⟨j + 1, _, rfl, by go_num, by omega, by omega, N.out⟩
          · have hj8z : ¬ (j : Int) < 8 := by omega
            obtain rfl : j = 8 := by omega
            obtain ⟨c, rfl, hc8, hoc, hmin⟩ : ∃ c : Nat, b = c ∧ c < 8 ∧ on5 c = true ∧ ∀ i, i < 8 → on5 i = true → i ≠ c → at5 c < at5 i ∨ (at5 c = at5 i ∧ c < i) := by
              rcases BA.out.1 with ⟨_, h0⟩ | q
              · have := h0 k hk8; rw [HON.out] at this; cases this
              · exact q
            have hcz : (c : Int) < 8 := by omega
            have C := Lib.hid (st_top BA.out.2.hl.st c ⟨at5 c, 0, 0, 0⟩ (BA.out.2.first hc8 hoc hmin))
            have AN := Lib.hid BA.out.2
            clear BA hmin hoc
            go_wp2_with fail
            refine C.out.mono ?_
            rintro e w6 ⟨rfl, g6⟩
            have A6 := Lib.hid (AN.out.gr g6)
            clear C AN g6
            go_wp2_with fail
            obtain ⟨w7, hw7⟩ : ∃ w7, w7 = w6.alloc (.cells #[.int .i64 (at5 c), .int .i64 0, .int .i64 0, .int .i64 0] 33) := ⟨_, rfl⟩
            have A7 : Hid (An w w7 p F4 n5 M5 A (A + 1) at5 on5) := by rw [hw7]; exact A6.out.gr ((Ke.refl _ _).alloc _)
            have x0 : w7.cell? ⟨w6.heap.size, 0, none⟩ = some (.int .i64 (at5 c)) := by rw [hw7]; simp [go_sem]
            have ca := A7.out.ra.cell hc8
            rw [← hw7]
            clear A6 hw7
            generalize w6.heap.size = X at *
            have CL : Hid (∀ W, Gr w7 W → Calls Try.prog 16 #[.pointer (some ⟨p, 0, none⟩)] W fun e w' => e = .returned (.int .i64 n5) ∧ Gr W w') := fun W g => (hl_len (A7.out.gr g).hl).mono (fun e w' ⟨h1, h2⟩ => ⟨h1, by rw [h2]; exact Ke.refl _ _⟩)
            have AZ : Hid (∀ W, Gr w7 W → An w W p F4 n5 M5 A (A + 1) at5 on5) := fun W g => A7.out.gr g
            clear A7
            generalize at5 c = ac at *
            have kx0 := gw_cell x0
            have kca := gw_cell ca
            have hne : Nonempty (GW w7) := ⟨⟨w7, Ke.refl _ _⟩⟩
            have hself := @gw_self w7
            have hself' : ∀ p : GW w7, ∃ q : GW w7, q.W = p.W := fun p => ⟨p, rfl⟩
            clear x0 ca
            refine wp_region_gw (by kernel_rfl) (by kernel_rfl) ?_
            repeat (go_big_quiet_step (first | (go_at_call 16; exact gw_of (CL.out _ (GW.gr _)))))
            refine wpQuiet_nil ?_
            intro _ hw'
            obtain ⟨pp, hw''⟩ := hw'
            subst hw''
            have N := Lib.hid (AZ.out pp.W pp.gr)
            clear kx0 kca hself hself' hne AZ CL
            generalize pp.W = W5 at *
            go_wp2
            go_roundg (n0 - (i + 1))
            case measure => omega
            case rel => exact ⟨i + 1, F4, n5, M5, at5, on5, rfl, by go_num, by omega, by omega, N.out⟩
    · have hltz : ¬ (i : Int) < (n0 : Int) := by omega
      go_wp2
      go_ret
      exact ⟨rfl, AN.out.hl.below⟩

set_option maxRecDepth 100000 in
set_option maxHeartbeats 2000000 in
theorem anew_none (a0 : Option Addr) (c0 : Nat) (a1 : Option Addr) (n1 c1 : Nat) (w : World) :
    Calls Try.prog 5 #[.slice a0 (0 : Nat) c0, .slice a1 n1 c1] w fun e w' => e = .returned (.bool true) ∧ Below w.heap.size w w' := by
  have CA := Lib.hid (awake_true w)
  go_enter Try.func5, Try.ntmps5
  go_wp2_with fail
  refine CA.out.mono ?_
  rintro e w1 ⟨rfl, B1⟩
  have C := Lib.hid (hl_new B1 2)
  clear CA B1
  go_wp2_with fail
  refine C.out.mono ?_
  rintro e w2 ⟨rfl, H2, g2⟩
  have A2 := Lib.hid (an_start (k := 2) H2)
  clear C H2 g2
  generalize w1.heap.size = p at *
  go_wp2_with fail
  refine wp_loop_rounds 1 ?_
  rw [rounds_succ]
  go_wp2_with fail
  go_ret
  exact ⟨rfl, A2.out.hl.below⟩

theorem anew_all (a0 : Option Addr) (n0 c0 : Nat) (a1 : Option Addr) (n1 c1 : Nat) (z0 z1 : Nat → Int) (w : World) (q0 : RowIn .u8 w a0 n0 z0) (q1 : RowIn .i16 w a1 n1 z1) :
    Calls Try.prog 5 #[.slice a0 n0 c0, .slice a1 n1 c1] w fun e w' => e = .returned (.bool true) ∧ Below w.heap.size w w' := by
  by_cases h : 200 < n0 ∨ n1 < n0
  · exact anew_big a0 n0 c0 a1 n1 c1 w h
  · rcases Nat.eq_zero_or_pos n0 with rfl | hp
    · exact anew_none a0 c0 a1 n1 c1 w
    · rcases q0 with e | ⟨b0, o0, rfl, hb0, r0⟩
      · omega
      · rcases q1 with e | ⟨b1, o1, rfl, hb1, r1⟩
        · omega
        · exact anew_walk b0 o0 n0 c0 b1 o1 n1 c1 z0 z1 w (by omega) (by omega) hb0 hb1 r0 (fun i hi => r1 i (by omega))
end Go.Proofs.Ytfbgjlfepnbcgaa
