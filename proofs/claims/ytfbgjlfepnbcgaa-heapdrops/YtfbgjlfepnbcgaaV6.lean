/- The law HeapDrops walked. -/
import Derived.Test.YtfbgjlfepnbcgaaU6
namespace Go.Proofs.Ytfbgjlfepnbcgaa
open Go.RowKit Go.Lib
set_option linter.unusedVariables false

theorem info4 : ∃ i, Try.prog.info? 4 = some i ∧ i.size = 1 ∧ i.bytes = 1 ∧ i.zero = some (.bool false) := by
  have h1 : (Try.prog.info? 4).map (·.size) = some 1 := by kernel_rfl
  have h2 : (Try.prog.info? 4).map (·.bytes) = some 1 := by kernel_rfl
  have h3 : (Try.prog.info? 4).map (·.zero) = some (some (.bool false)) := by kernel_rfl
  cases h : Try.prog.info? 4 with
  | none => rw [h] at h1; cases h1
  | some i =>
    rw [h] at h1 h2 h3
    exact ⟨i, rfl, by simpa using h1, by simpa using h2, by simpa using h3⟩
theorem make4 (n : Nat) (hc : n ≤ 1000000) (w : World) : (Instr.makeSlice 48 (.int .i64 (n : Int)) (.int .i64 (n : Int))).run Try.prog w = .ok (.slice (some ⟨w.heap.size, 0, none⟩) n n) (w.alloc (.cells (madeCells #[.bool false] n) 4)) := by
  obtain ⟨i, hi, h1, h2, h3⟩ := info4
  have h := run_make w 48 4 i _ Try.underlying48 hi h3 .i64 .i64 n n (by omega) (by omega) (by rw [h2]; omega) (by omega)
  rw [h1, Int.toNat_natCast, Nat.mul_one] at h
  exact h
theorem dr_start {w0 w : World} {p : Nat} (h : Hl w0 w p 2 (fun g => g = p) 0 (fun _ => none)) (N : Nat) (at_ : Nat → Int) : Dr w0 (w.alloc (.cells (madeCells #[.bool false] N) 4)) p (fun g => g = p) 0 (fun _ => none) w.heap.size N at_ (fun j => decide (j < 0)) (fun j => decide (j < 0)) := by
  have hp := (h.st.lt (g := p) rfl).2
  refine { hl := h.gr ((Ke.refl _ _).alloc _), ro := ?_, nO := by omega, bO := h.below.size, mm := fun s => by simp }
  exact (World.rowIs_made w (.bool false) N 4).congr (fun i _ => by simp)

set_option maxRecDepth 100000 in
set_option maxHeartbeats 2000000 in
theorem drops_big (a0 : Option Addr) (n0 c0 : Nat) (a1 : Option Addr) (n1 c1 : Nat) (w : World) (h : 200 < n0 ∨ 200 < n1) :
    Calls Try.prog 7 #[.slice a0 n0 c0, .slice a1 n1 c1] w fun e w' => e = .returned (.bool true) ∧ Below w.heap.size w w' := by
  have CA := Lib.hid (awake_true w)
  by_cases h1 : 200 < n0
  · have d1 : decide ((n0 : Int) > 200) = true := by simp; omega
    clear h
    go_enter Try.func7, Try.ntmps7
    go_wp2_with fail
    refine CA.out.mono ?_
    rintro e w1 ⟨rfl, B1⟩
    have BB := Lib.hid B1
    clear CA B1
    go_wp2
    go_ret
    exact ⟨rfl, BB.out⟩
  · have d1 : decide ((n0 : Int) > 200) = false := by simp; omega
    have d2 : decide ((n1 : Int) > 200) = true := by simp; omega
    clear h
    go_enter Try.func7, Try.ntmps7
    go_wp2_with fail
    refine CA.out.mono ?_
    rintro e w1 ⟨rfl, B1⟩
    have BB := Lib.hid B1
    clear CA B1
    go_wp2
    go_ret
    exact ⟨rfl, BB.out⟩

/-- All of them. -/
def AllIn (b0 o0 n0 : Nat) (z0 : Nat → Int) (w : World) : Prop := ∀ i, i < n0 → w.cell? ⟨b0, o0 + i, none⟩ = some (.int .i16 (z0 i)) ∧ -32768 ≤ z0 i ∧ z0 i ≤ 32767

set_option maxRecDepth 100000 in
set_option maxHeartbeats 4000000 in
theorem drops_walk (b0 o0 : Nat) (n0 c0 : Nat) (a1 : Option Addr) (n1 c1 : Nat) (z0 z1 : Nat → Int) (w : World) (h2 : n0 ≤ 200) (h3 : n1 ≤ 200) (hp0 : 0 < n0) (hb0 : b0 < w.heap.size)
    (r0 : AllIn b0 o0 n0 z0 w) (r1 : RowIn .u8 w a1 n1 z1) :
    Calls Try.prog 7 #[.slice (some ⟨b0, o0, none⟩) n0 c0, .slice a1 n1 c1] w fun e w' => e = .returned (.bool true) ∧ Below w.heap.size w w' := by
  have CA := Lib.hid (awake_true w)
  have CM := Lib.hid made_any
  have R0 := Lib.hid r0
  have R1 := Lib.hid r1
  clear r0 r1
  have d1 : decide ((n0 : Int) > 200) = false := by simp; omega
  have d2 : decide ((n1 : Int) > 200) = false := by simp; omega
  go_enter Try.func7, Try.ntmps7
  go_wp2_with fail
  refine CA.out.mono ?_
  rintro e w1 ⟨rfl, B1⟩
  have C := Lib.hid (hl_new B1 2)
  clear CA B1
  go_wp2_with fail
  refine C.out.mono ?_
  rintro e w2 ⟨rfl, H2, g2⟩
  have A2 := Lib.hid (dr_start H2 n0 z0)
  have mk := make4 n0 (by omega) w2
  clear C H2 g2
  generalize w1.heap.size = p at *
  go_wp2_with fail
  clear mk
  generalize w2.heap.size = O at *
  go_loopg [7] n0 (fun kx s7 wr => ∃ (i : Nat) (F : Nat → Prop) (n : Nat) (M : Nat → Option Rk), s7 = .int .i64 i ∧ i ≤ n0 ∧ n0 - i ≤ kx ∧ Aside (Dr w wr p F n M O n0 z0 (fun j => decide (j < i)) (fun j => decide (j < i))))
  case atStart => exact ⟨0, _, 0, _, rfl, by omega, by omega, A2.out⟩
  case round =>
    clear A2
    obtain ⟨i, F, n, M, rfl, hi, hkx, D⟩ := hrel
    by_cases hlt : i < n0
    · have hltz : (i : Int) < (n0 : Int) := by omega
      obtain ⟨cd, hd⟩ := R0.out i hlt
      replace cd := (D.out.hl.below.cell (p := ⟨b0, o0 + i, none⟩) hb0).trans cd
      have e3 : IntKind.i64.wrap (z0 i) = z0 i := by rw [IntKind.wrap_i64]; omega
      have CP : Hid (∀ W, Gr wr W → Calls Try.prog 11 #[.pointer (some ⟨p, 0, none⟩), .int .i64 i, V ⟨z0 i, 0, 0, 5⟩] W fun e w' => e = .returned (.int .i64 0) ∧ w'.cell? ⟨O, i, none⟩ = some (.bool false) ∧ w'.frozen? ⟨O, i, none⟩ = false ∧ ∃ F' n' M', Dr w (w'.setCell ⟨O, i, none⟩ (.bool true)) p F' n' M' O n0 z0 (fun j => decide (j < i + 1)) (fun j => decide (j < i + 1))) := fun W g => by
        have D1 := D.out.gr g
        refine (hl_put D1.hl i (by omega) ⟨z0 i, 0, 0, 5⟩).mono ?_
        rintro e w' ⟨rfl, F', a, v⟩
        have d := D1.come i hlt a v
        have d5 := d.store i true
        rw [bool_upto] at d5
        exact ⟨rfl, by rw [d.ro.cell hlt]; simp, d.ro.frozen i, F', _, _, d5⟩
      clear D
      generalize z0 i = d at *
      go_wp2_with fail
      refine (CM.out ⟨d, 0, 0, 5⟩ _).mono ?_
      rintro e w3 ⟨rfl, g3⟩
      have G3 := Lib.hid g3
      clear g3 cd
      go_wp2_with fail
      refine (CP.out _ G3.out).mono ?_
      rintro e w4 ⟨rfl, co, fo, F4, n4, M4, D4⟩
      have DD := Lib.hid D4
      clear CP D4 G3
      go_wp2
      go_roundg (n0 - (i + 1))
      case measure => omega
      case rel => exact ⟨i + 1, F4, n4, M4, by go_num, by omega, by omega, DD.out⟩
    · have hltz : ¬ (i : Int) < (n0 : Int) := by omega
      have D1 : Hid (∃ on, Dr w wr p F n M O n0 z0 on on) := ⟨_, D.out⟩
      clear D
      go_wp2_with fail
      go_loopg [8] n1 (fun ky s8 wz => ∃ (j : Nat) (n : Nat) (M : Nat → Option Rk) (on : Nat → Bool), s8 = .int .i64 j ∧ j ≤ n1 ∧ n1 - j ≤ ky ∧ Aside (Dr w wz p F n M O n0 z0 on on))
      case atStart =>
        obtain ⟨on, d⟩ := D1.out
        exact ⟨0, n, M, on, rfl, by omega, by omega, d⟩
      case round =>
        clear D1
        obtain ⟨j, n2, M2, on, rfl, hj, hky, D⟩ := hrel
        by_cases hjn : j < n1
        · obtain ⟨b1, o1, rfl, hb1, r1⟩ : ∃ b1 o1, a1 = some ⟨b1, o1, none⟩ ∧ b1 < w.heap.size ∧ ∀ i, i < n1 → w.cell? ⟨b1, o1 + i, none⟩ = some (.int .u8 (z1 i)) ∧ (Lit.int .u8 (z1 i)).wf = true := by
            rcases R1.out with q | q
            · omega
            · exact q
          have hjz : (j : Int) < (n1 : Int) := by omega
          have hn0z : 0 < (n0 : Int) := by omega
          have dj : decide ((j : Int) < (n1 : Int)) = true := by simp; omega
          obtain ⟨cx, wx⟩ := r1 j hjn
          replace cx := (D.out.hl.below.cell (p := ⟨b1, o1 + j, none⟩) hb1).trans cx
          have hx := wf_u8 wx
          clear r1
          generalize z1 j = x at *
          obtain ⟨k, hk⟩ : ∃ k : Nat, x % (n0 : Int) = (k : Int) := ⟨(x % (n0 : Int)).toNat, by have := Int.emod_nonneg x (show (n0 : Int) ≠ 0 by omega); omega⟩
          have hkn : k < n0 := by have := Int.emod_lt_of_pos x (show 0 < (n0 : Int) by omega); omega
          have hkz : (k : Int) < (n0 : Int) := by omega
          have e1 : IntKind.i64.wrap x = x := by rw [IntKind.wrap_i64]; omega
          have e2 : x.tmod (n0 : Int) = (k : Int) := by rw [Int.tmod_eq_emod_of_nonneg (by omega)]; exact hk
          have hz : ((n0 : Int) == 0) = false := by simp; omega
          have hz2 : ¬ (n0 : Int) = 0 := by omega
          have co := D.out.ro.cell hkn
          have C := Lib.hid (fun W (g : Gr wr W) => (D.out.gr g).drop k hkn)
          clear D wx
          generalize hon : on k = b at co C
          have co2 : wr.drew.cell? ⟨O, k, none⟩ = some (.bool b) := co
          go_wp2_with fail
          go_region_held3 (fun w' => w'.cell? ⟨O, k, none⟩ = some (.bool b)) (with_reducible assumption)
            (first | (go_at_call 15; refine (C.out _ ((Ke.refl _ _).drew)).mono ?_; rintro e w5 ⟨rfl, k5, f5, D5⟩))
          have DD := Lib.hid D5
          clear C D5
          go_wp2
          go_roundg (n1 - (j + 1))
          case measure => omega
          case rel =>
            obtain ⟨n', M', d⟩ := DD.out
            exact ⟨j + 1, n', M', _, by go_num, by omega, by omega, d⟩
        · have hjz : ¬ (j : Int) < (n1 : Int) := by omega
          have dj : decide ((j : Int) < (n1 : Int)) = false := by simp; omega
          clear R1
          go_wp2_with fail
          go_loopg [10] n2 (fun kx s10 wr => ∃ (n : Nat) (M : Nat → Option Rk) (on : Nat → Bool), n ≤ kx ∧ Aside (Dr w wr p F n M O n0 z0 on on))
          case atStart => exact ⟨n2, M2, on, Nat.le_refl _, D.out⟩
          case round =>
            clear D
            clear on hkx hky
            obtain ⟨n3, M3, on, hkx, D⟩ := hrel
            go_wp2_with fail
            go_loopg [10, 11] n0 (fun ky s10 s11 wz => ∃ (j : Nat) (b : Int), s10 = .int .i64 b ∧ s11 = .int .i64 j ∧ j ≤ n0 ∧ n0 - j ≤ ky ∧ Aside (Best on z0 j b ∧ Dr w wz p F n3 M3 O n0 z0 on on))
            case atStart => exact ⟨0, -1, rfl, rfl, by omega, by omega, Best.start _ _, D.out⟩
            case round =>
              clear D
              rename_i jold _ _ _ _ _
              obtain ⟨j, b, rfl, rfl, hj, hky, BA⟩ := hrel
              by_cases hjn : j < n0
              · have hjz : (j : Int) < (n0 : Int) := by omega
                have co := BA.out.2.ro.cell hjn
                have ca := (BA.out.2.hl.below.cell (p := ⟨b0, o0 + j, none⟩) hb0).trans (R0.out j hjn).1
                have hne : Nonempty (GW wr) := ⟨⟨wr, Ke.refl _ _⟩⟩
                have hself := @gw_self wr
                have hself' : ∀ p : GW wr, ∃ q : GW wr, q.W = p.W := fun p => ⟨p, rfl⟩
                have NX : Hid (∀ b', Best on z0 (j + 1) b' → ∀ W, Gr wr W → Best on z0 (j + 1) b' ∧ Dr w W p F n3 M3 O n0 z0 on on) := fun b' hb W g => ⟨hb, BA.out.2.gr g⟩
                cases hoj : on j
                · rw [hoj] at co
                  have kco := gw_cell co
                  have hb := Lib.hid (BA.out.1.off hoj)
                  clear co ca hoj BA
                  go_wp2_with fail
                  refine wp_region_gw (by kernel_rfl) (by kernel_rfl) ?_
                  repeat (go_big_quiet_step (fail))
                  refine wpQuiet_nil ?_
                  intro _ hw'
                  obtain ⟨pp, hw''⟩ := hw'
                  subst hw''
                  have N := Lib.hid (NX.out _ hb.out pp.W pp.gr)
                  clear kco hself hself' hne
                  generalize pp.W = W5 at *
                  go_wp2
                  go_roundg (n0 - (j + 1))
                  case measure => omega
                  case rel => exact ⟨j + 1, _, rfl, by go_num, by omega, by omega, N.out⟩
                · rw [hoj] at co
                  rcases BA.out.1 with ⟨rfl, h0⟩ | ⟨c, rfl, hcj, hoc, hmin⟩
                  · have hb := Lib.hid (Best.one BA.out.1 hoj)
                    have db : decide ((-1 : Int) < 0) = true := by decide
                    have kco := gw_cell co
                    clear co ca hoj BA h0
                    go_wp2_with fail
                    refine wp_region_gw (by kernel_rfl) (by kernel_rfl) ?_
                    repeat (go_big_quiet_step (fail))
                    refine wpQuiet_nil ?_
                    intro _ hw'
                    obtain ⟨pp, hw''⟩ := hw'
                    subst hw''
                    have N := Lib.hid (NX.out _ hb.out pp.W pp.gr)
                    clear kco hself hself' hne
                    generalize pp.W = W5 at *
                    go_wp2
                    go_roundg (n0 - (j + 1))
                    case measure => omega
                    case rel => exact ⟨j + 1, _, rfl, by go_num, by omega, by omega, N.out⟩
                  · have db : decide ((c : Int) < 0) = false := by simp
                    have hcz : (c : Int) < (n0 : Int) := by omega
                    have cc := (BA.out.2.hl.below.cell (p := ⟨b0, o0 + c, none⟩) hb0).trans (R0.out c (by omega)).1
                    have kco := gw_cell co
                    have kca := gw_cell ca
                    have kcc := gw_cell cc
                    by_cases hl : z0 j < z0 c
                    · have dl : decide (z0 j < z0 c) = true := by simp [hl]
                      have hb := Lib.hid (Best.less BA.out.1 hoj hl)
                      clear co ca cc hoj BA hmin hoc hl
                      generalize z0 j = aj at *
                      generalize z0 c = ac at *
                      go_wp2_with fail
                      refine wp_region_gw (by kernel_rfl) (by kernel_rfl) ?_
                      repeat (go_big_quiet_step (fail))
                      refine wpQuiet_nil ?_
                      intro _ hw'
                      obtain ⟨pp, hw''⟩ := hw'
                      subst hw''
                      have N := Lib.hid (NX.out _ hb.out pp.W pp.gr)
                      clear kco kca kcc hself hself' hne
                      generalize pp.W = W5 at *
                      go_wp2
                      go_roundg (n0 - (j + 1))
                      case measure => omega
                      case rel => exact ⟨j + 1, _, rfl, by go_num, by omega, by omega, N.out⟩
                    · have dl : decide (z0 j < z0 c) = false := by simpa using hl
                      have hb := Lib.hid (Best.more BA.out.1 hl)
                      clear co ca cc hoj BA hmin hoc hl
                      generalize z0 j = aj at *
                      generalize z0 c = ac at *
                      go_wp2_with fail
                      refine wp_region_gw (by kernel_rfl) (by kernel_rfl) ?_
                      repeat (go_big_quiet_step (fail))
                      refine wpQuiet_nil ?_
                      intro _ hw'
                      obtain ⟨pp, hw''⟩ := hw'
                      subst hw''
                      have N := Lib.hid (NX.out _ hb.out pp.W pp.gr)
                      clear kco kca kcc hself hself' hne
                      generalize pp.W = W5 at *
                      go_wp2
                      go_roundg (n0 - (j + 1))
                      case measure => omega
                      case rel => exact ⟨j + 1, _, rfl, by go_num, by omega, by omega, N.out⟩
              · have hjz : ¬ (j : Int) < (n0 : Int) := by omega
                obtain rfl : j = n0 := by omega
                rcases BA.out.1 with ⟨rfl, hall⟩ | ⟨c, rfl, hc8, hoc, hmin⟩
                · have hno : ∀ s, M3 s = none := fun s => by
                    rw [BA.out.2.mm s]
                    by_cases e : s < j
                    · simp [hall s e]
                    · simp [e]
                  obtain rfl : n3 = 0 := st_empty BA.out.2.hl.st hno
                  have C := Lib.hid (hl_pop_none BA.out.2.hl)
                  clear BA hall hno
                  go_wp2_with fail
                  refine C.out.mono ?_
                  rintro e w6 ⟨rfl, H6, v6⟩
                  have HH := Lib.hid (H6.gr ((Ke.refl _ _).alloc (.cells #[.int .i64 0, .int .i64 0, .int .i64 0, .int .i64 0] 33)))
                  clear C H6 v6
                  go_wp2
                  go_ret
                  exact ⟨rfl, HH.out.below⟩
                · have hcz : (c : Int) < (j : Int) := by omega
                  have hM : M3 c = some ⟨z0 c, 0, 0, 5⟩ := by rw [BA.out.2.mm c]; simp [hc8, hoc]
                  obtain ⟨m, rfl⟩ := st_some BA.out.2.hl.st hM
                  have C := Lib.hid (hl_pop BA.out.2.hl c ⟨z0 c, 0, 0, 5⟩ (BA.out.2.first hc8 hoc hmin))
                  have AN := Lib.hid BA.out.2
                  obtain ⟨cd, hd⟩ := R0.out c hc8
                  have e3 : IntKind.i64.wrap (z0 c) = z0 c := by rw [IntKind.wrap_i64]; omega
                  have d9 : decide ((c : Int) ≥ 0) = true := by simp
                  clear BA hmin hoc hM
                  go_wp2_with fail
                  refine C.out.mono ?_
                  rintro e w6 ⟨rfl, H6, v6⟩
                  have A6 := Lib.hid (AN.out.gone c H6 v6)
                  clear C AN H6 v6
                  go_upto_region 33 with fail
                  obtain ⟨w7, hw7⟩ : ∃ w7, w7 = w6.alloc (.cells #[.int .i64 (z0 c), .int .i64 0, .int .i64 0, .int .i64 5] 33) := ⟨_, rfl⟩
                  have A7 : Hid (Dr w w7 p F m (upd M3 c none) O j z0 (upd on c false) on) := by rw [hw7]; exact A6.out.gr ((Ke.refl _ _).alloc _)
                  have x0 : w7.cell? ⟨w6.heap.size, 0, none⟩ = some (.int .i64 (z0 c)) := by rw [hw7]; simp [go_sem]
                  have ca := (A7.out.hl.below.cell (p := ⟨b0, o0 + c, none⟩) hb0).trans cd
                  rw [← hw7]
                  clear A6 hw7 cd
                  generalize w6.heap.size = X at *
                  have AZ : Hid (∀ W, Gr w7 W → W.cell? ⟨O, c, none⟩ = some (.bool (on c)) ∧ W.frozen? ⟨O, c, none⟩ = false ∧ Dr w (W.setCell ⟨O, c, none⟩ (.bool false)) p F m (upd M3 c none) O j z0 (upd on c false) (upd on c false)) := fun W g => by
                    have q := A7.out.gr g
                    exact ⟨q.ro.cell hc8, q.ro.frozen c, q.store c false⟩
                  clear A7
                  generalize z0 c = ac at *
                  have kx0 := gw_cell x0
                  have kca := gw_cell ca
                  have hne : Nonempty (GW w7) := ⟨⟨w7, Ke.refl _ _⟩⟩
                  have hself := @gw_self w7
                  have hself' : ∀ p : GW w7, ∃ q : GW w7, q.W = p.W := fun p => ⟨p, rfl⟩
                  clear x0 ca
                  refine wp_region_gw (by kernel_rfl) (by kernel_rfl) ?_
                  repeat (go_big_quiet_step (fail))
                  refine wpQuiet_nil ?_
                  intro _ hw'
                  obtain ⟨pp, hw''⟩ := hw'
                  subst hw''
                  obtain ⟨co, fo, D8⟩ := AZ.out pp.W pp.gr
                  have N := Lib.hid D8
                  clear kx0 kca hself hself' hne AZ D8
                  generalize pp.W = W5 at *
                  go_wp2
                  go_roundg m
                  case measure => omega
                  case rel => exact ⟨m, _, _, Nat.le_refl _, N.out⟩
end Go.Proofs.Ytfbgjlfepnbcgaa
