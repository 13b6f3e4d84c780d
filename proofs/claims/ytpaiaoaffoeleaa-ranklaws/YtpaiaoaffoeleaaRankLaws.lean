/- The law RankLaws of package evenhandedlaw4 answers true for every input: of two ranks that are unlike one goes first, and not the other one; of three the first of the first is ahead of the last. No condition. -/
import Derived.Test.YtpaiaoaffoeleaaRows
import Derived.WalkKit
import Derived.ProofKit
import Derived.OpenShut
import Derived.ShutString
import Derived.Deep.DeepCutAuto
import Derived.Test.YtpaiaoaffoeleaaH4
import Derived.Test.YtpaiaoaffoeleaaS4
namespace Go.Proofs.Ytpaiaoaffoeleaa.rankLaws
open Go.ChangeShapes Go.WideShapes Go.ChangeAt Go.RowKit
open Go.ChangeMaps (open_string shut_string)
set_option linter.unusedVariables false      -- a walk need not use every 'w<i>' (that an integer argument fits its kind)

theorem cells23 : Try.prog.cellsOf 23 = 4 := by kernel_rfl
theorem cells3 : Try.prog.cellsOf 3 = 1 := by kernel_rfl
theorem own : ownKnob Try.prog.godebug = none := by kernel_rfl

/-! ### STEP 1: THE WALK: the Go text returns true. 'Gr w w'': the world has at most new blocks (Derived/RowKit3.lean). Part the cases AHEAD of 'go_enter' where a test parts the walk; take each callee by a contract of your own. -/
set_option maxRecDepth 100000 in
set_option maxHeartbeats 8000000 in
theorem walk (a0 : Int) (a1 : Int) (a2 : Int) (a3 : Int) (a4 : Int) (a5 : Int) (a6 : Int) (a7 : Int) (a8 : Int) (a9 : Int) (a10 : Int) (a11 : Int) (w0 : (Lit.int .i64 a0).wf = true) (w1 : (Lit.int .i64 a1).wf = true) (w2 : (Lit.int .i64 a2).wf = true) (w3 : (Lit.int .i64 a3).wf = true) (w4 : (Lit.int .i64 a4).wf = true) (w5 : (Lit.int .i64 a5).wf = true) (w6 : (Lit.int .i64 a6).wf = true) (w7 : (Lit.int .i64 a7).wf = true) (w8 : (Lit.int .i64 a8).wf = true) (w9 : (Lit.int .i64 a9).wf = true) (w10 : (Lit.int .i64 a10).wf = true) (w11 : (Lit.int .i64 a11).wf = true) (w : World) :
    Calls Try.prog 5 #[.agg #[.int .i64 a0, .int .i64 a1, .int .i64 a2, .int .i64 a3], .agg #[.int .i64 a4, .int .i64 a5, .int .i64 a6, .int .i64 a7], .agg #[.int .i64 a8, .int .i64 a9, .int .i64 a10, .int .i64 a11]] w fun e w' => e = .returned (.bool true) ∧ Gr w w' := by
  clear w0 w1 w2 w3 w4 w5 w6 w7 w8 w9 w10 w11
  go_enter Try.func5, Try.ntmps5
  go_wp2_with fail
  refine (awake_true _).mono ?_
  rintro q w1 ⟨rfl, g1⟩
  have ba := (((Box.new w ⟨a0, a1, a2, a3⟩ 23).alloc _).alloc _).keep g1
  have bb := (((Box.new (w.alloc (.cells #[.int .i64 a0, .int .i64 a1, .int .i64 a2, .int .i64 a3] 23)) ⟨a4, a5, a6, a7⟩ 23).alloc _).keep g1).at (B' := w.heap.size + 1) (by simp)
  have bc := ((Box.new ((w.alloc (.cells #[.int .i64 a0, .int .i64 a1, .int .i64 a2, .int .i64 a3] 23)).alloc (.cells #[.int .i64 a4, .int .i64 a5, .int .i64 a6, .int .i64 a7] 23)) ⟨a8, a9, a10, a11⟩ 23).keep g1).at (B' := w.heap.size + 2) (by simp)
  have hz := bc.lt
  have p0 := ba.c0; have p1 := ba.c1; have p2 := ba.c2; have p3 := ba.c3
  have q0 := bb.c0; have q1 := bb.c1; have q2 := bb.c2; have q3 := bb.c3
  have x0 := bc.c0; have x1 := bc.c1; have x2 := bc.c2; have x3 := bc.c3
  have mixed : Try.prog.follows .mixedOrders = true := by kernel_rfl
  go_upto_region 3 with fail
  clear p0 p1 p2 p3 q0 q1 q2 q3 x0 x1 x2 x3
  go_cut [7, 8, 9] (fun s7 s8 s9 wx => Three w1 ⟨a0, a1, a2, a3⟩ ⟨a4, a5, a6, a7⟩ ⟨a8, a9, a10, a11⟩ s7 s8 s9 wx)
  case first =>
    clear hz
    generalize w.heap.size = A at *
    refine wp_region_inv 9 (by assumption) (by kernel_rfl) (I3 a0 a1 a2 a3 a4 a5 a6 a7 a8 a9 a10 a11 A w1) ?_ ?_ ?_
    · exact ⟨_, _, _, _, _, _, _, _, _, rfl, (Gr.refl _).drew, nofun, nofun, nofun, nofun, nofun, nofun, 0, 0, 0, nofun, nofun, nofun, nofun, nofun, nofun⟩
    · intro L a w i o hI hi ho hu hd
      obtain ⟨s7, s8, s9, s12, s13, s14, s15, s16, s17, rfl, J⟩ := hI
      have hcase : i = 0 ∨ i = 1 ∨ i = 2 ∨ i = 3 ∨ i = 4 ∨ i = 5 ∨ i = 6 ∨ i = 7 ∨ i = 8 := by omega
      rcases hcase with rfl | rfl | rfl | rfl | rfl | rfl | rfl | rfl | rfl
      all_goals (obtain rfl := Option.some.inj ho; clear ho hi)
      · have bk := ba.keep J.gr
        have p0 := bk.c0; have p1 := bk.c1; have p2 := bk.c2; have p3 := bk.c3
        refine wpOp_step rfl (fun K hK => ?_)
        unfold fr3
        go_simp
        exact hK _ _ ⟨s7, s8, s9, (V ⟨a0, a1, a2, a3⟩), s13, s14, s15, s16, s17, rfl, J.mark0⟩
      · have d := hd ⟨0, .data⟩ (by simp) (by rfl)
        obtain rfl := J.l0 d
        refine wpOp_step rfl (fun K hK => ?_)
        unfold fr3
        go_simp
        refine (made_any ⟨a0, a1, a2, a3⟩ _).mono ?_
        rintro e w' ⟨rfl, g⟩
        exact hK _ _ ⟨s7, s8, s9, (V ⟨a0, a1, a2, a3⟩), (V ⟨a0, a1, a2, a3⟩), s14, s15, s16, s17, rfl, (J.grow g).mark1⟩
      · have bk := bb.keep J.gr
        have p0 := bk.c0; have p1 := bk.c1; have p2 := bk.c2; have p3 := bk.c3
        refine wpOp_step rfl (fun K hK => ?_)
        unfold fr3
        go_simp
        exact hK _ _ ⟨s7, s8, s9, s12, s13, (V ⟨a4, a5, a6, a7⟩), s15, s16, s17, rfl, J.mark2⟩
      · have d := hd ⟨2, .data⟩ (by simp) (by rfl)
        obtain rfl := J.l2 d
        refine wpOp_step rfl (fun K hK => ?_)
        unfold fr3
        go_simp
        refine (made_any ⟨a4, a5, a6, a7⟩ _).mono ?_
        rintro e w' ⟨rfl, g⟩
        exact hK _ _ ⟨s7, s8, s9, s12, s13, (V ⟨a4, a5, a6, a7⟩), (V ⟨a4, a5, a6, a7⟩), s16, s17, rfl, (J.grow g).mark3⟩
      · have bk := bc.keep J.gr
        have p0 := bk.c0; have p1 := bk.c1; have p2 := bk.c2; have p3 := bk.c3
        refine wpOp_step rfl (fun K hK => ?_)
        unfold fr3
        go_simp
        exact hK _ _ ⟨s7, s8, s9, s12, s13, s14, s15, (V ⟨a8, a9, a10, a11⟩), s17, rfl, J.mark4⟩
      · have d := hd ⟨4, .data⟩ (by simp) (by rfl)
        obtain rfl := J.l4 d
        refine wpOp_step rfl (fun K hK => ?_)
        unfold fr3
        go_simp
        refine (made_any ⟨a8, a9, a10, a11⟩ _).mono ?_
        rintro e w' ⟨rfl, g⟩
        exact hK _ _ ⟨s7, s8, s9, s12, s13, s14, s15, (V ⟨a8, a9, a10, a11⟩), (V ⟨a8, a9, a10, a11⟩), rfl, (J.grow g).mark5⟩
      · refine wpOp_step rfl (fun K hK => ?_)
        unfold fr3
        go_simp
        exact hK _ _ ⟨(.pointer (some ⟨w.heap.size, 0, none⟩)), s8, s9, s12, s13, s14, s15, s16, s17, rfl, J.mark6⟩
      · refine wpOp_step rfl (fun K hK => ?_)
        unfold fr3
        go_simp
        exact hK _ _ ⟨s7, (.pointer (some ⟨w.heap.size, 0, none⟩)), s9, s12, s13, s14, s15, s16, s17, rfl, J.mark7⟩
      · refine wpOp_step rfl (fun K hK => ?_)
        unfold fr3
        go_simp
        exact hK _ _ ⟨s7, s8, (.pointer (some ⟨w.heap.size, 0, none⟩)), s12, s13, s14, s15, s16, s17, rfl, J.mark8⟩
    · intro a w hI
      obtain ⟨s7, s8, s9, s12, s13, s14, s15, s16, s17, rfl, J⟩ := hI
      obtain rfl := J.l0 (by simp)
      obtain rfl := J.l1 (by simp)
      obtain rfl := J.l2 (by simp)
      obtain rfl := J.l3 (by simp)
      obtain rfl := J.l4 (by simp)
      obtain rfl := J.l5 (by simp)
      obtain ⟨B7, B8, B9, h6, h7, h8, n1, n2, n3⟩ := J.bx
      obtain ⟨rfl, z7, u7, b7⟩ := h6 (by simp)
      obtain ⟨rfl, z8, u8, b8⟩ := h7 (by simp)
      obtain ⟨rfl, z9, u9, b9⟩ := h8 (by simp)
      have m1 := n1 (by simp) (by simp)
      have m2 := n2 (by simp) (by simp)
      have m3 := n3 (by simp) (by simp)
      have gg := J.gr
      clear J h6 h7 h8 n1 n2 n3 ba bb bc
      have p0 := b7.c0; have p1 := b7.c1; have p2 := b7.c2; have p3 := b7.c3; have pf := b7.f0
      have B8' := b8.far4 (Ne.symm m1) (.int .i64 a0) (.int .i64 a1) (.int .i64 a2) (.int .i64 a3)
      have q0 := B8'.c0; have q1 := B8'.c1; have q2 := B8'.c2; have q3 := B8'.c3; have qf := B8'.f0
      have B9' := (b9.far4 (Ne.symm m2) (.int .i64 a0) (.int .i64 a1) (.int .i64 a2) (.int .i64 a3)).far4 (Ne.symm m3) (.int .i64 a4) (.int .i64 a5) (.int .i64 a6) (.int .i64 a7)
      have x0 := B9'.c0; have x1 := B9'.c1; have x2 := B9'.c2; have x3 := B9'.c3; have xf := B9'.f0
      unfold fr3
      simp only [List.drop_succ_cons, List.drop_zero]
      go_wp2_with fail
      go_meet
      refine ⟨B7, B8, B9, rfl, rfl, rfl, ?_, ?_, ?_, ?_⟩
      · exact (((b7.set (y := ⟨a0, a1, a2, a3⟩)).far4 m1 _ _ _ _).far4 m2 _ _ _ _)
      · exact (B8'.set (y := ⟨a4, a5, a6, a7⟩)).far4 m3 _ _ _ _
      · exact B9'.set (y := ⟨a8, a9, a10, a11⟩)
      · exact (((((((((((gg.set z7 _ _).set z7 _ _).set z7 _ _).set z7 _ _).set z8 _ _).set z8 _ _).set z8 _ _).set z8 _ _).set z9 _ _).set z9 _ _).set z9 _ _).set z9 _ _
  case rest =>
    obtain ⟨B7, B8, B9, rfl, rfl, rfl, b7, b8, b9, g2⟩ := hcut
    replace ba := ba.keep g2
    replace bb := bb.keep g2
    replace bc := bc.keep g2
    have gw : Gr w wc := ((((Gr.refl w).alloc _).alloc _).alloc _).trans (g1.trans g2)
    clear g1 g2 hz
    generalize w.heap.size = A at *
    have asym : lessB ⟨a0, a1, a2, a3⟩ ⟨a4, a5, a6, a7⟩ = true → lessB ⟨a4, a5, a6, a7⟩ ⟨a0, a1, a2, a3⟩ = false := fun h => asym_of swo_less h
    have tot : lessB ⟨a0, a1, a2, a3⟩ ⟨a4, a5, a6, a7⟩ = false → lessB ⟨a4, a5, a6, a7⟩ ⟨a0, a1, a2, a3⟩ = false → a3 = a7 := fun h1 h2 => by rw [less_not] at h1 h2; simp only at h1 h2; omega
    have tr : lessB ⟨a0, a1, a2, a3⟩ ⟨a4, a5, a6, a7⟩ = true → lessB ⟨a4, a5, a6, a7⟩ ⟨a8, a9, a10, a11⟩ = true → lessB ⟨a0, a1, a2, a3⟩ ⟨a8, a9, a10, a11⟩ = true := fun h1 h2 => swo_less.trans _ _ _ h1 h2
    have cxy := fun W => less_any ⟨a0, a1, a2, a3⟩ ⟨a4, a5, a6, a7⟩ W
    have cyx := fun W => less_any ⟨a4, a5, a6, a7⟩ ⟨a0, a1, a2, a3⟩ W
    have cyz := fun W => less_any ⟨a4, a5, a6, a7⟩ ⟨a8, a9, a10, a11⟩ W
    have cxz := fun W => less_any ⟨a0, a1, a2, a3⟩ ⟨a8, a9, a10, a11⟩ W
    have cxx := fun W => less_any ⟨a0, a1, a2, a3⟩ ⟨a0, a1, a2, a3⟩ W
    rw [swo_less.irrefl] at cxx
    generalize lessB ⟨a0, a1, a2, a3⟩ ⟨a4, a5, a6, a7⟩ = p at *
    generalize lessB ⟨a4, a5, a6, a7⟩ ⟨a0, a1, a2, a3⟩ = q at *
    generalize lessB ⟨a4, a5, a6, a7⟩ ⟨a8, a9, a10, a11⟩ = s at *
    generalize lessB ⟨a0, a1, a2, a3⟩ ⟨a8, a9, a10, a11⟩ = t at *
    have CXY := Lib.hid cxy
    have CYX := Lib.hid cyx
    have CYZ := Lib.hid cyz
    have CXZ := Lib.hid cxz
    have CXX := Lib.hid cxx
    clear cxy cyx cyz cxz cxx
    obtain ⟨bad, hbad⟩ : ∃ bad : Bool, decide ((a1 ≠ 0 ∧ a1 ≠ 1) ∨ (a5 ≠ 0 ∧ a5 ≠ 1) ∨ (a9 ≠ 0 ∧ a9 ≠ 1)) = bad := ⟨_, rfl⟩
    have HBAD := Lib.hid hbad
    have ASYM := Lib.hid asym
    have TOT := Lib.hid tot
    have TR := Lib.hid tr
    clear hbad asym tot tr mixed
    cases p
    case true =>
      have hq : q = false := by simpa using ASYM.out
      subst hq
      have m0 := b7.c0; have m1 := b7.c1; have m2 := b7.c2; have m3 := b7.c3
      have n0 := b8.c0; have n1 := b8.c1; have n2 := b8.c2; have n3 := b8.c3
      have o0 := b9.c0; have o1 := b9.c1; have o2 := b9.c2; have o3 := b9.c3
      go_wp2_with fail
      clear m0 m1 m2 m3 n0 n1 n2 n3 o0 o1 o2 o3
      refine (CXY.out _).mono ?_
      rintro e v1 ⟨rfl, g1⟩
      replace b7 := b7.keep g1
      replace b8 := b8.keep g1
      replace b9 := b9.keep g1
      replace ba := ba.keep g1
      replace bb := bb.keep g1
      replace bc := bc.keep g1
      replace gw := gw.trans g1
      clear g1
      have m0 := b7.c0; have m1 := b7.c1; have m2 := b7.c2; have m3 := b7.c3
      have n0 := b8.c0; have n1 := b8.c1; have n2 := b8.c2; have n3 := b8.c3
      have o0 := b9.c0; have o1 := b9.c1; have o2 := b9.c2; have o3 := b9.c3
      go_wp2_with fail
      clear m0 m1 m2 m3 n0 n1 n2 n3 o0 o1 o2 o3
      refine (CYX.out _).mono ?_
      rintro e v2 ⟨rfl, g2⟩
      replace b7 := b7.keep g2
      replace b8 := b8.keep g2
      replace b9 := b9.keep g2
      replace ba := ba.keep g2
      replace bb := bb.keep g2
      replace bc := bc.keep g2
      replace gw := gw.trans g2
      clear g2
      have m0 := b7.c0; have m1 := b7.c1; have m2 := b7.c2; have m3 := b7.c3
      have n0 := b8.c0; have n1 := b8.c1; have n2 := b8.c2; have n3 := b8.c3
      have o0 := b9.c0; have o1 := b9.c1; have o2 := b9.c2; have o3 := b9.c3
      go_wp2_with fail
      clear m0 m1 m2 m3 n0 n1 n2 n3 o0 o1 o2 o3
      refine (CXX.out _).mono ?_
      rintro e v3 ⟨rfl, g3⟩
      replace b7 := b7.keep g3
      replace b8 := b8.keep g3
      replace b9 := b9.keep g3
      replace ba := ba.keep g3
      replace bb := bb.keep g3
      replace bc := bc.keep g3
      replace gw := gw.trans g3
      clear g3
      have r0 := ba.c1; have r1 := bb.c1; have r2 := bc.c1
      go_upto_region 6 with fail
      go_cut [58] (fun s58 wx => s58 = .bool bad ∧ v3 = wx)
      case first =>
        as_aux_lemma =>
          rcases tri a1 with ⟨H1, i1, j1⟩ | ⟨H1, i1, j1⟩ | ⟨H1, i1, j1⟩ <;> rcases tri a5 with ⟨H2, i2, j2⟩ | ⟨H2, i2, j2⟩ | ⟨H2, i2, j2⟩ <;> rcases tri a9 with ⟨H3, i3, j3⟩ | ⟨H3, i3, j3⟩ | ⟨H3, i3, j3⟩
          all_goals
            go_wp2_with fail
            go_meet
            refine ⟨?_, rfl⟩
            rw [← HBAD.out]
            have h1 := H1.out; have h2 := H2.out; have h3 := H3.out
            clear i1 i2 i3 j1 j2 j3
            first | rw [decide_eq_true (by omega)] | rw [decide_eq_false (by omega)]
      case rest =>
      obtain ⟨rfl, rfl⟩ := hcut
      clear r0 r1 r2
      cases bad
      case true =>
        go_wp2
        go_ret
        exact ⟨rfl, gw⟩
      case false =>
        by_cases hid : a3 = a7
        · have i7 : (a3 != a7) = false := by simp [hid]
          have HID := Lib.hid hid
          clear hid
          have r3 := ba.c3; have r4 := bb.c3
          have m0 := b7.c0; have m1 := b7.c1; have m2 := b7.c2; have m3 := b7.c3
          have n0 := b8.c0; have n1 := b8.c1; have n2 := b8.c2; have n3 := b8.c3
          have o0 := b9.c0; have o1 := b9.c1; have o2 := b9.c2; have o3 := b9.c3
          go_wp2_with fail
          clear m0 m1 m2 m3 n0 n1 n2 n3 o0 o1 o2 o3
          refine (CXY.out _).mono ?_
          rintro e v4 ⟨rfl, g4⟩
          replace b7 := b7.keep g4
          replace b8 := b8.keep g4
          replace b9 := b9.keep g4
          replace ba := ba.keep g4
          replace bb := bb.keep g4
          replace bc := bc.keep g4
          replace gw := gw.trans g4
          clear g4
          try clear r3 r4
          cases s
          case false =>
            have m0 := b7.c0; have m1 := b7.c1; have m2 := b7.c2; have m3 := b7.c3
            have n0 := b8.c0; have n1 := b8.c1; have n2 := b8.c2; have n3 := b8.c3
            have o0 := b9.c0; have o1 := b9.c1; have o2 := b9.c2; have o3 := b9.c3
            go_wp2_with fail
            clear m0 m1 m2 m3 n0 n1 n2 n3 o0 o1 o2 o3
            refine (CYZ.out _).mono ?_
            rintro e v5 ⟨rfl, g5⟩
            replace b7 := b7.keep g5
            replace b8 := b8.keep g5
            replace b9 := b9.keep g5
            replace ba := ba.keep g5
            replace bb := bb.keep g5
            replace bc := bc.keep g5
            replace gw := gw.trans g5
            clear g5
            go_wp2
            go_ret
            exact ⟨rfl, gw⟩
          case true =>
            have ht : t = true := by simpa using TR.out
            subst ht
            have m0 := b7.c0; have m1 := b7.c1; have m2 := b7.c2; have m3 := b7.c3
            have n0 := b8.c0; have n1 := b8.c1; have n2 := b8.c2; have n3 := b8.c3
            have o0 := b9.c0; have o1 := b9.c1; have o2 := b9.c2; have o3 := b9.c3
            go_wp2_with fail
            clear m0 m1 m2 m3 n0 n1 n2 n3 o0 o1 o2 o3
            refine (CYZ.out _).mono ?_
            rintro e v5 ⟨rfl, g5⟩
            replace b7 := b7.keep g5
            replace b8 := b8.keep g5
            replace b9 := b9.keep g5
            replace ba := ba.keep g5
            replace bb := bb.keep g5
            replace bc := bc.keep g5
            replace gw := gw.trans g5
            clear g5
            have m0 := b7.c0; have m1 := b7.c1; have m2 := b7.c2; have m3 := b7.c3
            have n0 := b8.c0; have n1 := b8.c1; have n2 := b8.c2; have n3 := b8.c3
            have o0 := b9.c0; have o1 := b9.c1; have o2 := b9.c2; have o3 := b9.c3
            go_wp2_with fail
            clear m0 m1 m2 m3 n0 n1 n2 n3 o0 o1 o2 o3
            refine (CXZ.out _).mono ?_
            rintro e v6 ⟨rfl, g6⟩
            replace b7 := b7.keep g6
            replace b8 := b8.keep g6
            replace b9 := b9.keep g6
            replace ba := ba.keep g6
            replace bb := bb.keep g6
            replace bc := bc.keep g6
            replace gw := gw.trans g6
            clear g6
            go_wp2
            go_ret
            exact ⟨rfl, gw⟩
        · have i7 : (a3 != a7) = true := by simp [hid]
          clear hid
          have r3 := ba.c3; have r4 := bb.c3
          have m0 := b7.c0; have m1 := b7.c1; have m2 := b7.c2; have m3 := b7.c3
          have n0 := b8.c0; have n1 := b8.c1; have n2 := b8.c2; have n3 := b8.c3
          have o0 := b9.c0; have o1 := b9.c1; have o2 := b9.c2; have o3 := b9.c3
          go_wp2_with fail
          clear m0 m1 m2 m3 n0 n1 n2 n3 o0 o1 o2 o3
          refine (CXY.out _).mono ?_
          rintro e v4 ⟨rfl, g4⟩
          replace b7 := b7.keep g4
          replace b8 := b8.keep g4
          replace b9 := b9.keep g4
          replace ba := ba.keep g4
          replace bb := bb.keep g4
          replace bc := bc.keep g4
          replace gw := gw.trans g4
          clear g4
          clear r3 r4
          have m0 := b7.c0; have m1 := b7.c1; have m2 := b7.c2; have m3 := b7.c3
          have n0 := b8.c0; have n1 := b8.c1; have n2 := b8.c2; have n3 := b8.c3
          have o0 := b9.c0; have o1 := b9.c1; have o2 := b9.c2; have o3 := b9.c3
          go_wp2_with fail
          clear m0 m1 m2 m3 n0 n1 n2 n3 o0 o1 o2 o3
          refine (CXY.out _).mono ?_
          rintro e v5 ⟨rfl, g5⟩
          replace b7 := b7.keep g5
          replace b8 := b8.keep g5
          replace b9 := b9.keep g5
          replace ba := ba.keep g5
          replace bb := bb.keep g5
          replace bc := bc.keep g5
          replace gw := gw.trans g5
          clear g5
          try clear r3 r4
          cases s
          case false =>
            have m0 := b7.c0; have m1 := b7.c1; have m2 := b7.c2; have m3 := b7.c3
            have n0 := b8.c0; have n1 := b8.c1; have n2 := b8.c2; have n3 := b8.c3
            have o0 := b9.c0; have o1 := b9.c1; have o2 := b9.c2; have o3 := b9.c3
            go_wp2_with fail
            clear m0 m1 m2 m3 n0 n1 n2 n3 o0 o1 o2 o3
            refine (CYZ.out _).mono ?_
            rintro e v6 ⟨rfl, g6⟩
            replace b7 := b7.keep g6
            replace b8 := b8.keep g6
            replace b9 := b9.keep g6
            replace ba := ba.keep g6
            replace bb := bb.keep g6
            replace bc := bc.keep g6
            replace gw := gw.trans g6
            clear g6
            go_wp2
            go_ret
            exact ⟨rfl, gw⟩
          case true =>
            have ht : t = true := by simpa using TR.out
            subst ht
            have m0 := b7.c0; have m1 := b7.c1; have m2 := b7.c2; have m3 := b7.c3
            have n0 := b8.c0; have n1 := b8.c1; have n2 := b8.c2; have n3 := b8.c3
            have o0 := b9.c0; have o1 := b9.c1; have o2 := b9.c2; have o3 := b9.c3
            go_wp2_with fail
            clear m0 m1 m2 m3 n0 n1 n2 n3 o0 o1 o2 o3
            refine (CYZ.out _).mono ?_
            rintro e v6 ⟨rfl, g6⟩
            replace b7 := b7.keep g6
            replace b8 := b8.keep g6
            replace b9 := b9.keep g6
            replace ba := ba.keep g6
            replace bb := bb.keep g6
            replace bc := bc.keep g6
            replace gw := gw.trans g6
            clear g6
            have m0 := b7.c0; have m1 := b7.c1; have m2 := b7.c2; have m3 := b7.c3
            have n0 := b8.c0; have n1 := b8.c1; have n2 := b8.c2; have n3 := b8.c3
            have o0 := b9.c0; have o1 := b9.c1; have o2 := b9.c2; have o3 := b9.c3
            go_wp2_with fail
            clear m0 m1 m2 m3 n0 n1 n2 n3 o0 o1 o2 o3
            refine (CXZ.out _).mono ?_
            rintro e v7 ⟨rfl, g7⟩
            replace b7 := b7.keep g7
            replace b8 := b8.keep g7
            replace b9 := b9.keep g7
            replace ba := ba.keep g7
            replace bb := bb.keep g7
            replace bc := bc.keep g7
            replace gw := gw.trans g7
            clear g7
            go_wp2
            go_ret
            exact ⟨rfl, gw⟩
    case false =>
      have m0 := b7.c0; have m1 := b7.c1; have m2 := b7.c2; have m3 := b7.c3
      have n0 := b8.c0; have n1 := b8.c1; have n2 := b8.c2; have n3 := b8.c3
      have o0 := b9.c0; have o1 := b9.c1; have o2 := b9.c2; have o3 := b9.c3
      go_wp2_with fail
      clear m0 m1 m2 m3 n0 n1 n2 n3 o0 o1 o2 o3
      refine (CXY.out _).mono ?_
      rintro e v1 ⟨rfl, g1⟩
      replace b7 := b7.keep g1
      replace b8 := b8.keep g1
      replace b9 := b9.keep g1
      replace ba := ba.keep g1
      replace bb := bb.keep g1
      replace bc := bc.keep g1
      replace gw := gw.trans g1
      clear g1
      have m0 := b7.c0; have m1 := b7.c1; have m2 := b7.c2; have m3 := b7.c3
      have n0 := b8.c0; have n1 := b8.c1; have n2 := b8.c2; have n3 := b8.c3
      have o0 := b9.c0; have o1 := b9.c1; have o2 := b9.c2; have o3 := b9.c3
      go_wp2_with fail
      clear m0 m1 m2 m3 n0 n1 n2 n3 o0 o1 o2 o3
      refine (CXX.out _).mono ?_
      rintro e v2 ⟨rfl, g2⟩
      replace b7 := b7.keep g2
      replace b8 := b8.keep g2
      replace b9 := b9.keep g2
      replace ba := ba.keep g2
      replace bb := bb.keep g2
      replace bc := bc.keep g2
      replace gw := gw.trans g2
      clear g2
      have r0 := ba.c1; have r1 := bb.c1; have r2 := bc.c1
      go_upto_region 6 with fail
      go_cut [58] (fun s58 wx => s58 = .bool bad ∧ v2 = wx)
      case first =>
        as_aux_lemma =>
          rcases tri a1 with ⟨H1, i1, j1⟩ | ⟨H1, i1, j1⟩ | ⟨H1, i1, j1⟩ <;> rcases tri a5 with ⟨H2, i2, j2⟩ | ⟨H2, i2, j2⟩ | ⟨H2, i2, j2⟩ <;> rcases tri a9 with ⟨H3, i3, j3⟩ | ⟨H3, i3, j3⟩ | ⟨H3, i3, j3⟩
          all_goals
            go_wp2_with fail
            go_meet
            refine ⟨?_, rfl⟩
            rw [← HBAD.out]
            have h1 := H1.out; have h2 := H2.out; have h3 := H3.out
            clear i1 i2 i3 j1 j2 j3
            first | rw [decide_eq_true (by omega)] | rw [decide_eq_false (by omega)]
      case rest =>
      obtain ⟨rfl, rfl⟩ := hcut
      clear r0 r1 r2
      cases bad
      case true =>
        go_wp2
        go_ret
        exact ⟨rfl, gw⟩
      case false =>
        by_cases hid : a3 = a7
        · have i7 : (a3 != a7) = false := by simp [hid]
          have HID := Lib.hid hid
          clear hid
          have r3 := ba.c3; have r4 := bb.c3
          have m0 := b7.c0; have m1 := b7.c1; have m2 := b7.c2; have m3 := b7.c3
          have n0 := b8.c0; have n1 := b8.c1; have n2 := b8.c2; have n3 := b8.c3
          have o0 := b9.c0; have o1 := b9.c1; have o2 := b9.c2; have o3 := b9.c3
          go_wp2_with fail
          clear m0 m1 m2 m3 n0 n1 n2 n3 o0 o1 o2 o3
          refine (CXY.out _).mono ?_
          rintro e v3 ⟨rfl, g3⟩
          replace b7 := b7.keep g3
          replace b8 := b8.keep g3
          replace b9 := b9.keep g3
          replace ba := ba.keep g3
          replace bb := bb.keep g3
          replace bc := bc.keep g3
          replace gw := gw.trans g3
          clear g3
          clear r3 r4
          go_wp2
          go_ret
          exact ⟨rfl, gw⟩
        · have i7 : (a3 != a7) = true := by simp [hid]
          have hq : q = true := by
            cases q
            · exact absurd (by simpa using TOT.out) hid
            · rfl
          subst hq
          clear hid
          have r3 := ba.c3; have r4 := bb.c3
          have m0 := b7.c0; have m1 := b7.c1; have m2 := b7.c2; have m3 := b7.c3
          have n0 := b8.c0; have n1 := b8.c1; have n2 := b8.c2; have n3 := b8.c3
          have o0 := b9.c0; have o1 := b9.c1; have o2 := b9.c2; have o3 := b9.c3
          go_wp2_with fail
          clear m0 m1 m2 m3 n0 n1 n2 n3 o0 o1 o2 o3
          refine (CXY.out _).mono ?_
          rintro e v3 ⟨rfl, g3⟩
          replace b7 := b7.keep g3
          replace b8 := b8.keep g3
          replace b9 := b9.keep g3
          replace ba := ba.keep g3
          replace bb := bb.keep g3
          replace bc := bc.keep g3
          replace gw := gw.trans g3
          clear g3
          have m0 := b7.c0; have m1 := b7.c1; have m2 := b7.c2; have m3 := b7.c3
          have n0 := b8.c0; have n1 := b8.c1; have n2 := b8.c2; have n3 := b8.c3
          have o0 := b9.c0; have o1 := b9.c1; have o2 := b9.c2; have o3 := b9.c3
          go_wp2_with fail
          clear m0 m1 m2 m3 n0 n1 n2 n3 o0 o1 o2 o3
          refine (CYX.out _).mono ?_
          rintro e v4 ⟨rfl, g4⟩
          replace b7 := b7.keep g4
          replace b8 := b8.keep g4
          replace b9 := b9.keep g4
          replace ba := ba.keep g4
          replace bb := bb.keep g4
          replace bc := bc.keep g4
          replace gw := gw.trans g4
          clear g4
          clear r3 r4
          have m0 := b7.c0; have m1 := b7.c1; have m2 := b7.c2; have m3 := b7.c3
          have n0 := b8.c0; have n1 := b8.c1; have n2 := b8.c2; have n3 := b8.c3
          have o0 := b9.c0; have o1 := b9.c1; have o2 := b9.c2; have o3 := b9.c3
          go_wp2_with fail
          clear m0 m1 m2 m3 n0 n1 n2 n3 o0 o1 o2 o3
          refine (CXY.out _).mono ?_
          rintro e v5 ⟨rfl, g5⟩
          replace b7 := b7.keep g5
          replace b8 := b8.keep g5
          replace b9 := b9.keep g5
          replace ba := ba.keep g5
          replace bb := bb.keep g5
          replace bc := bc.keep g5
          replace gw := gw.trans g5
          clear g5
          go_wp2
          go_ret
          exact ⟨rfl, gw⟩

/-! ### THE ROW's STEP: WRITTEN OUT: LEAVE IT -/
set_option maxRecDepth 100000 in
theorem lifted (os : Os) (started : os.Started) (H : Type) (enc : TypeId × Value → H) :
    ReturnsInHanded {} Try.checked os 5 .any (Rows.rankLawsSpec.pre6 enc Try.prog Try.f5 Rows.rankLawsRow.domain false) (Rows.rankLawsSpec.post enc Try.prog Try.f5 false true false false) := by
  refine returnsInHanded_of_change (C := Try.checked) own started (by kernel_rfl) Try.func5
    (ChangeSpec.witness6 (enc := enc) (C := Try.checked) false ⟨#[], #[.agg #[.int .i64 0, .int .i64 0, .int .i64 0, .int .i64 0], .agg #[.int .i64 0, .int .i64 0, .int .i64 0, .int .i64 0], .agg #[.int .i64 0, .int .i64 0, .int .i64 0, .int .i64 0]], []⟩ 8 (by kernel_rfl) (by kernel_rfl) (by kernel_rfl) (by kernel_rfl)) ?_
  intro W base args ds gs before hval0 hW hcnd _
  have hval : ∀ (j : Nat) t v, Try.f5.params[j]? = some t → args[j]? = some v → Value.okWide Try.prog W .any base t v := hval0
  have hW' := hW
  obtain ⟨p, q, hA0, hV, rfl, hfz, hnd⟩ := hW
  have hA : DataW.TrodAll enc Try.prog W 0 (fun _ => true) true Try.f5.params.toList args.toList ds p := hA0
  rw [Try.params5] at hA hval
  obtain ⟨v0, vs0, d0, ds0, p0, q0, hargs, rfl, rfl, h0, r0⟩ := trodAll_cons hA
  obtain ⟨v1, vs1, d1, ds1, p1, q1, rfl, rfl, rfl, h1, r1⟩ := trodAll_cons r0
  obtain ⟨v2, vs2, d2, ds2, p2, q2, rfl, rfl, rfl, h2, r2⟩ := trodAll_cons r1
  obtain ⟨rfl, rfl, rfl⟩ := trodAll_nil r2
  obtain rfl : args = #[v0, v1, v2] := by cases args; simp_all
  obtain ⟨rfl, rfl⟩ := trodVars_none hV
  obtain ⟨a0, a1, a2, a3, rfl, rfl, rfl, w0, w1, w2, w3⟩ := open_rk Try.underlying23 (by kernel_rfl) cells23 Try.underlying3 Try.underlying3 Try.underlying3 Try.underlying3 (hval 0 23 v0 rfl rfl) h0
  obtain ⟨a4, a5, a6, a7, rfl, rfl, rfl, w4, w5, w6, w7⟩ := open_rk Try.underlying23 (by kernel_rfl) cells23 Try.underlying3 Try.underlying3 Try.underlying3 Try.underlying3 (hval 1 23 v1 rfl rfl) h1
  obtain ⟨a8, a9, a10, a11, rfl, rfl, rfl, w8, w9, w10, w11⟩ := open_rk Try.underlying23 (by kernel_rfl) cells23 Try.underlying3 Try.underlying3 Try.underlying3 Try.underlying3 (hval 2 23 v2 rfl rfl) h2
  clear hA0 hval0
  simp only [List.append_nil] at hW'
  refine (walk a0 a1 a2 a3 a4 a5 a6 a7 a8 a9 a10 a11 w0 w1 w2 w3 w4 w5 w6 w7 w8 w9 w10 w11 W).mono fun e W' ⟨he, hg⟩ => ?_
  subst he
  exact ⟨_, rfl, post_gr (pa := []) (pv := []) hW' (fun _ _ _ => (trodAll_cons_mk (shut_bool Try.underlying4 _) trodAll_mk0)) (fun sp _ => (trodAll_cons_mk (shut_rk Try.underlying23 (by kernel_rfl) cells23 Try.underlying3 Try.underlying3 Try.underlying3 Try.underlying3 w0 w1 w2 w3) (trodAll_cons_mk (shut_rk Try.underlying23 (by kernel_rfl) cells23 Try.underlying3 Try.underlying3 Try.underlying3 Try.underlying3 w4 w5 w6 w7) (trodAll_cons_mk (shut_rk Try.underlying23 (by kernel_rfl) cells23 Try.underlying3 Try.underlying3 Try.underlying3 Try.underlying3 w8 w9 w10 w11) trodAll_mk0)))) (fun _ _ => rfl) rfl
    hg (ok_one (by kernel_rfl) rfl (okWide_bool_mk Try.underlying4 _))⟩

theorem over : Rows.rankLawsRow.holds Try.pinned (OpenSpec.ofChange Rows.rankLawsSpec) :=
  OpenClaim.holds_of_wide 5 Try.f5 rfl rfl rfl rfl rfl rfl rfl ⟨rfl, rfl, rfl, rfl, rfl⟩ rfl rfl rfl rfl rfl (by kernel_rfl) Try.func5 (by kernel_rfl)
    (of_decide_eq_true (by kernel_rfl)) (by unfold Func.isWrapper; first | (rw [if_pos (by decide +kernel)]; kernel_rfl) | (rw [if_neg (by decide +kernel)]; exact ⟨rfl, rfl⟩))
    (fun os started H enc _ => lifted os started H enc)

/-- ████ THE STATEMENT ████ -/
theorem proved : Rows.RankLawsSaid :=
  over
#print axioms proved
end Go.Proofs.Ytpaiaoaffoeleaa.rankLaws
