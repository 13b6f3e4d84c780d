/- The law HeapPlays walked. -/
import Derived.Test.YtfbgjlfepnbcgaaC7
import Derived.Deep.CutBlock
namespace Go.Proofs.Ytfbgjlfepnbcgaa
open Go.RowKit Go.Lib
set_option linter.unusedVariables false

theorem inv_len {w0 w : World} {p : Nat} {k : Int} {ma : Option Addr} {n cap : Nat} (h : Inv w0 w p k ma n cap) : Calls Try.prog 16 #[.pointer (some ⟨p, 0, none⟩)] w fun e w' => e = .returned (.int .i64 n) ∧ w' = w := by
  obtain ⟨_, _, _, _, hl, _⟩ := h
  exact hl_len hl
/-- Stores into a block that is none of these. -/
theorem Pl.far4 {w0 w : World} {p : Nat} {k : Int} {F : Nat → Prop} {n : Nat} {M : Nat → Option Rk} {mv : Value} {rn : Nat} {O : Nat → Int} {E : Nat → En} {B : Nat} {o s : Int} {r : Rk} (h : Pl w0 w p k F n M mv rn O E B o s r) (X : Nat) (h1 : ¬ F X) (h2 : mv.ownBlock ≠ some X) (h3 : B ≠ X) (h4 : w0.heap.size ≤ X) (a b c d : Value) :
    Pl w0 ((((w.setCell ⟨X, 0, none⟩ a).setCell ⟨X, 1, none⟩ b).setCell ⟨X, 2, none⟩ c).setCell ⟨X, 3, none⟩ d) p k F n M mv rn O E B o s r := by
  have q : Ke (fun j => j = X) w ((((w.setCell ⟨X, 0, none⟩ a).setCell ⟨X, 1, none⟩ b).setCell ⟨X, 2, none⟩ c).setCell ⟨X, 3, none⟩ d) := by
    repeat (first | with_reducible exact Ke.refl _ _ | with_reducible refine Ke.set ?_ (.inl (by simp)) _)
  refine { h with hl := h.hl.other q (fun j hj e => h1 (by rw [← e]; exact hj)) (fun j e => by rw [e]; exact h4), rw_ := ⟨h.rw_.row.keep (fun g hg => q.block g (h.rw_.row.lt hg).2 (fun e => h2 (by rw [hg, e]))), h.rw_.ap⟩, bx := h.bx.ke q h3 }
theorem hl_pop' {w0 w : World} {p : Nat} {k : Int} {F : Nat → Prop} {j m : Nat} {M : Nat → Option Rk} (h : Hl w0 w p k F j M) (hj : j = m + 1) (s : Nat) (r : Rk) (hf : First k M s r) : Calls Try.prog 14 #[.pointer (some ⟨p, 0, none⟩)] w fun e w' => e = TopV s r true ∧ Hl w0 w' p k F m (upd M s none) ∧ Sv F F w w' := by
  subst hj
  exact hl_pop h s r hf
/-- Where the rest of a slice begins. -/
theorem slice_at (g cap c c1 m j : Nat) (h : j = m + 1) (h1 : c1 = c + 1) (hc : c < j) (hj : j ≤ cap) : ∃ A2 : Addr, (if cap = c1 then some (⟨g, 0, none⟩ : Addr) else some ⟨g, c1 * 6, none⟩) = some A2 ∧ ∀ t, t < (m - c) * 6 → A2.add t = ⟨g, (c + 1) * 6 + t, none⟩ := by
  subst h1
  by_cases e : cap = c + 1
  · refine ⟨⟨g, 0, none⟩, by simp [e], fun t ht => ?_⟩
    have : m - c = 0 := by omega
    rw [this] at ht; omega
  · refine ⟨⟨g, (c + 1) * 6, none⟩, by simp [e], fun t ht => ?_⟩
    unfold Addr.add; split <;> simp_all
/-- One cut out of the row: as the walk spells it. -/
theorem pl_cut' {w0 W : World} {p : Nat} {k : Int} {F : Nat → Prop} {n j : Nat} {M' : Nat → Option Rk} {g cap : Nat} {O : Nat → Int} {E : Nat → En} (hl : Hl w0 W p k F n M') (hr : Rw W w0.heap.size F (.slice (some ⟨g, 0, none⟩) j cap) j O E) (hj : j = n + 1) (c : Nat) (hc : c < j) (hs : Hs (cut E c) n M') (hn : n ≤ 300)
    (A2 : Addr) (hA : ∀ t, t < (n - c) * 6 → A2.add t = ⟨g, (c + 1) * 6 + t, none⟩) (l2 : Nat) (hl2 : l2 = n - c) (c2 : Nat) :
    ∃ v1 w1 ma' cap' w2, (∀ ty, (Builtin.append_ #[22, 22] ty #[.slice (some ⟨W.heap.size, 0, none⟩) 0 0, .slice (some ⟨g, 0, none⟩) c cap]).run Try.prog (W.drew.alloc (.cells #[] 29)) = .ok v1 w1) ∧
      (∀ ty, (Builtin.append_ #[22, 22] ty #[v1, .slice (some A2) l2 c2]).run Try.prog w1 = .ok (.slice ma' n cap') w2) ∧ Inv w0 w2 p k ma' n cap' := by
  subst hj hl2
  exact pl_cut hl hr c hc hs hn A2 hA c2

/-- Behind the inner loop. -/
def FndP (w0 : World) (p : Nat) (k : Int) (F : Nat → Prop) (n : Nat) (M : Nat → Option Rk) (ma : Option Addr) (cap : Nat) (O : Nat → Int) (E : Nat → En) (B : Nat) (o s : Int) (r : Rk) (s9 s10 : Value) (wx : World) : Prop :=
  ∃ a b : Int, s9 = .int .i64 a ∧ s10 = .int .i64 b ∧ AtTo E s n a ∧ BestTo k E n b ∧ Pl w0 wx p k F n M (.slice ma n cap) n O E B o s r
/-- Behind the switch: the round is done, or one is to be cut out. -/
def DidP (w0 : World) (p : Nat) (k : Int) (i : Nat) (s6 s12 : Value) (wx : World) : Prop :=
  (∃ (ma : Option Addr) (n cap : Nat), s6 = .slice ma n cap ∧ s12 = .int .i64 (-1) ∧ n ≤ i + 1 ∧ Inv w0 wx p k ma n cap) ∨
  ∃ (g j cap c m : Nat) (F : Nat → Prop) (M : Nat → Option Rk) (O : Nat → Int) (E : Nat → En), s6 = .slice (some ⟨g, 0, none⟩) j cap ∧ s12 = .int .i64 (c : Int) ∧ j = m + 1 ∧ c < j ∧ j ≤ i ∧ j ≤ cap ∧ cap ≤ maxLen ∧ Hl w0 wx p k F m M ∧ Rw wx w0.heap.size F (.slice (some ⟨g, 0, none⟩) j cap) j O E ∧ Hs (cut E c) m M

set_option maxRecDepth 100000 in
set_option maxHeartbeats 20000000 in
theorem plays_walk (k : Int) (b0 o0 N c0 : Nat) (q : Nat → Deed) (w : World) (hN : N ≤ 200) (hb0 : b0 < w.heap.size) (r0 : DdsIn w b0 o0 N q) :
    Calls Try.prog 3 #[.int .i64 k, .slice (some ⟨b0, o0, none⟩) N c0] w fun e w' => e = .returned (.bool true) ∧ Below w.heap.size w w' := by
  have CA := Lib.hid (awake_true w)
  have CM := Lib.hid made_any
  have R0 : Hid (∀ w', Below w.heap.size w w' → DdsIn w' b0 o0 N q) := fun w' hb => r0.keep hb0 hb
  clear r0
  have d1 : ¬ (N : Int) > 200 := by omega
  go_enter Try.func3, Try.ntmps3
  go_wp2_with fail
  refine CA.out.mono ?_
  rintro e w1 ⟨rfl, B1⟩
  have C := Lib.hid (hl_new B1 k)
  clear CA B1
  go_wp2_with fail
  refine C.out.mono ?_
  rintro e w2 ⟨rfl, H2, g2⟩
  have A2 : Hid (Inv w w2 w1.heap.size k none 0 0) := ⟨_, _, fun _ => 0, fun _ => default, H2, ⟨World.ownsRow_nil _ _ _ _, fun g hg => by simp [Value.ownBlock] at hg⟩, Hs.start _⟩
  clear C H2 g2
  generalize w1.heap.size = p at *
  go_wp2_with fail
  go_loopg [6, 7] N (fun kx s6 s7 wr => ∃ (i n : Nat) (ma : Option Addr) (cap : Nat), s6 = .slice ma n cap ∧ s7 = .int .i64 i ∧ i ≤ N ∧ N - i ≤ kx ∧ n ≤ i ∧ Aside (Inv w wr p k ma n cap))
  case atStart => exact ⟨0, 0, none, 0, rfl, rfl, by omega, by omega, Nat.le_refl _, A2.out⟩
  case round =>
    clear A2
    obtain ⟨i, n, ma, cap, rfl, rfl, hi, hkx, hni, D⟩ := hrel
    by_cases hlt : i < N
    · have hltz : (i : Int) < (N : Int) := by omega
      obtain ⟨F, M, O, E, HL, RW, HS⟩ := D.out
      obtain ⟨t0, t1, t2, t3, t4, t5⟩ := R0.out _ HL.below i hlt
      generalize q i = dd at *
      obtain ⟨od, sd, xd, xb, xg, xi⟩ := dd
      simp only at t0 t1 t2 t3 t4 t5
      have P0 := Lib.hid (Pl.start (o := od) (s := sd) (r := ⟨xd, xb, xg, xi⟩) HL RW)
      have HSS := Lib.hid HS
      have hcap := Lib.hid (show n ≤ cap ∧ cap ≤ maxLen by
        obtain ⟨ma', cap', e, h1, h2⟩ := RW.row.slice
        cases e; exact ⟨h1, h2⟩)
      have hsh := Lib.hid (show (ma = none ∧ n = 0) ∨ ∃ g, ma = some ⟨g, 0, none⟩ by
        rcases RW.row.shape with ⟨e, e2⟩ | ⟨g, c, e, _⟩
        · cases e; exact .inl ⟨rfl, rfl⟩
        · cases e; exact .inr ⟨g, rfl⟩)
      clear D HL RW HS
      go_upto_block 2 with fail
      clear t0 t1 t2 t3 t4 t5
      generalize wr.heap.size = B at *
      go_cut [9, 10] (fun s9 s10 wx => FndP w p k F n M ma cap O E B od sd ⟨xd, xb, xg, xi⟩ s9 s10 wx)
      case first =>
        go_wp2_with fail
        go_loopg [9, 10, 11] n (fun ky s9 s10 s11 wz => ∃ (j : Nat) (a b : Int), s9 = .int .i64 a ∧ s10 = .int .i64 b ∧ s11 = .int .i64 j ∧ j ≤ n ∧ n - j ≤ ky ∧ Aside (AtTo E sd j a ∧ BestTo k E j b ∧ Pl w wz p k F n M (.slice ma n cap) n O E B od sd ⟨xd, xb, xg, xi⟩))
        case atStart => exact ⟨0, -1, -1, rfl, rfl, rfl, by omega, by omega, AtTo.start _ _, BestTo.start _ _, P0.out⟩
        case round =>
          clear P0
          obtain ⟨j, a, b, rfl, rfl, rfl, hj, hky, D⟩ := hrel
          by_cases hjn : j < n
          · have hjz : (j : Int) < (n : Int) := by omega
            obtain ⟨g, rfl⟩ : ∃ g, ma = some ⟨g, 0, none⟩ := by
              rcases hsh.out with ⟨_, e⟩ | e
              · omega
              · exact e
            obtain ⟨u0, u1, u2, u3, u4, u5⟩ := deed_cells D.out.2.2.rw_.row j hjn
            have b1 := D.out.2.2.bx.b1
            have ku1 := gw_cell u1
            have kb1 := gw_cell b1
            clear u0 u1 u2 u3 u4 u5 b1
            have hne : Nonempty (GW wr) := ⟨⟨wr, Ke.refl _ _⟩⟩
            have hself := @gw_self wr
            have hself' : ∀ p : GW wr, ∃ q : GW wr, q.W = p.W := fun p => ⟨p, rfl⟩
            by_cases he : ((E j).s : Int) = sd
            · have eq1 : (((E j).s : Int) == sd) = true := by simp [he]
              have A1 : Hid (AtTo E sd (j + 1) (j : Int)) := AtTo.hit he
              generalize hs' : ((E j).s : Int) = sj at *
              go_wp2_with fail
              refine wp_region_gw (by kernel_rfl) (by kernel_rfl) ?_
              repeat (go_big_quiet_step (fail))
              refine wpQuiet_nil ?_
              intro _ hw'
              obtain ⟨pp, hw''⟩ := hw'
              subst hw''
              have P1 := Lib.hid (D.out.2.2.gr pp.gr)
              clear ku1 kb1 hself hself' hne eq1
              generalize pp.W = W1 at *
              clear pp hs' he
              go_wp2_with fail
              rcases D.out.2.1 with ⟨rfl, hj0⟩ | ⟨c, rfl, hcj, hmin⟩
              · have db : decide ((-1 : Int) < 0) = true := by decide
                have hb : Hid (BestTo k E (j + 1) (j : Int)) := by
                  rw [hj0]; exact BestTo.one k E
                clear D
                have hne : Nonempty (GW W1) := ⟨⟨W1, Ke.refl _ _⟩⟩
                have hself := @gw_self W1
                have hself' : ∀ p : GW W1, ∃ q : GW W1, q.W = p.W := fun p => ⟨p, rfl⟩
                refine wp_region_gw (by kernel_rfl) (by kernel_rfl) ?_
                repeat (go_big_quiet_step (fail))
                refine wpQuiet_nil ?_
                intro _ hw'
                obtain ⟨pp, hw''⟩ := hw'
                subst hw''
                have N := Lib.hid (P1.out.gr pp.gr)
                clear hself hself' hne P1
                generalize pp.W = W2 at *
                clear pp
                go_wp2
                go_roundg (n - (j + 1))
                case measure => omega
                case rel => exact ⟨j + 1, (j : Int), (j : Int), rfl, rfl, by go_num, by omega, by omega, A1.out, hb.out, N.out⟩
              · have db : decide ((c : Int) < 0) = false := by simp
                have hcz : (c : Int) < (n : Int) := by omega
                obtain ⟨l, hl⟩ : ∃ l, ahead k (E j) (E c) = l := ⟨_, rfl⟩
                have C := Lib.hid (fun W => dless_any k (O j) (O c) (E j) (E c) W)
                rw [hl] at C
                have hb1 : Hid (l = true → BestTo k E (j + 1) (j : Int)) := fun e => BestTo.less hcj hmin (by rw [hl]; exact e)
                have hb2 : Hid (l = false → BestTo k E (j + 1) (c : Int)) := fun e => BestTo.more hcj hmin (by rw [hl]; exact e)
                obtain ⟨u0, u1, u2, u3, u4, u5⟩ := deed_cells P1.out.rw_.row j hjn
                obtain ⟨v0, v1, v2, v3, v4, v5⟩ := deed_cells P1.out.rw_.row c (by omega)
                generalize O j = oj at *
                generalize O c = oc at *
                generalize E j = ej at *
                generalize E c = ec at *
                obtain ⟨js, jd, jb, jg, ji⟩ := ej
                obtain ⟨cs, cd, cb, cg, ci⟩ := ec
                simp only at C u0 u1 u2 u3 u4 u5 v0 v1 v2 v3 v4 v5
                have ku0 := gw_cell u0
                have ku1 := gw_cell u1
                have ku2 := gw_cell u2
                have ku3 := gw_cell u3
                have ku4 := gw_cell u4
                have ku5 := gw_cell u5
                have kv0 := gw_cell v0
                have kv1 := gw_cell v1
                have kv2 := gw_cell v2
                have kv3 := gw_cell v3
                have kv4 := gw_cell v4
                have kv5 := gw_cell v5
                clear D hl hmin u0 u1 u2 u3 u4 u5 v0 v1 v2 v3 v4 v5
                have hne : Nonempty (GW W1) := ⟨⟨W1, Ke.refl _ _⟩⟩
                have hself := @gw_self W1
                have hself' : ∀ p : GW W1, ∃ q : GW W1, q.W = p.W := fun p => ⟨p, rfl⟩
                refine wp_region_gw (by kernel_rfl) (by kernel_rfl) ?_
                repeat (go_big_quiet_step (first | (go_at_call 10; exact gw_of (C.out _))))
                refine wpQuiet_nil ?_
                intro _ hw'
                obtain ⟨pp, hw''⟩ := hw'
                subst hw''
                have N := Lib.hid (P1.out.gr pp.gr)
                clear hself hself' hne P1 ku0 ku1 ku2 ku3 ku4 ku5 kv0 kv1 kv2 kv3 kv4 kv5 C
                generalize pp.W = W2 at *
                clear pp
                cases l
                · go_wp2
                  go_roundg (n - (j + 1))
                  case measure => omega
                  case rel => exact ⟨j + 1, (j : Int), (c : Int), rfl, rfl, by go_num, by omega, by omega, A1.out, hb2.out (by simp), N.out⟩
                · go_wp2
                  go_roundg (n - (j + 1))
                  case measure => omega
                  case rel => exact ⟨j + 1, (j : Int), (j : Int), rfl, rfl, by go_num, by omega, by omega, A1.out, hb1.out (by simp), N.out⟩
            · have eq1 : (((E j).s : Int) == sd) = false := by simp [he]
              have A1 : Hid (AtTo E sd (j + 1) a) := D.out.1.miss he
              generalize hs' : ((E j).s : Int) = sj at *
              go_wp2_with fail
              refine wp_region_gw (by kernel_rfl) (by kernel_rfl) ?_
              repeat (go_big_quiet_step (fail))
              refine wpQuiet_nil ?_
              intro _ hw'
              obtain ⟨pp, hw''⟩ := hw'
              subst hw''
              have P1 := Lib.hid (D.out.2.2.gr pp.gr)
              clear ku1 kb1 hself hself' hne eq1
              generalize pp.W = W1 at *
              clear pp hs' he
              go_wp2_with fail
              rcases D.out.2.1 with ⟨rfl, hj0⟩ | ⟨c, rfl, hcj, hmin⟩
              · have db : decide ((-1 : Int) < 0) = true := by decide
                have hb : Hid (BestTo k E (j + 1) (j : Int)) := by
                  rw [hj0]; exact BestTo.one k E
                clear D
                have hne : Nonempty (GW W1) := ⟨⟨W1, Ke.refl _ _⟩⟩
                have hself := @gw_self W1
                have hself' : ∀ p : GW W1, ∃ q : GW W1, q.W = p.W := fun p => ⟨p, rfl⟩
                refine wp_region_gw (by kernel_rfl) (by kernel_rfl) ?_
                repeat (go_big_quiet_step (fail))
                refine wpQuiet_nil ?_
                intro _ hw'
                obtain ⟨pp, hw''⟩ := hw'
                subst hw''
                have N := Lib.hid (P1.out.gr pp.gr)
                clear hself hself' hne P1
                generalize pp.W = W2 at *
                clear pp
                go_wp2
                go_roundg (n - (j + 1))
                case measure => omega
                case rel => exact ⟨j + 1, a, (j : Int), rfl, rfl, by go_num, by omega, by omega, A1.out, hb.out, N.out⟩
              · have db : decide ((c : Int) < 0) = false := by simp
                have hcz : (c : Int) < (n : Int) := by omega
                obtain ⟨l, hl⟩ : ∃ l, ahead k (E j) (E c) = l := ⟨_, rfl⟩
                have C := Lib.hid (fun W => dless_any k (O j) (O c) (E j) (E c) W)
                rw [hl] at C
                have hb1 : Hid (l = true → BestTo k E (j + 1) (j : Int)) := fun e => BestTo.less hcj hmin (by rw [hl]; exact e)
                have hb2 : Hid (l = false → BestTo k E (j + 1) (c : Int)) := fun e => BestTo.more hcj hmin (by rw [hl]; exact e)
                obtain ⟨u0, u1, u2, u3, u4, u5⟩ := deed_cells P1.out.rw_.row j hjn
                obtain ⟨v0, v1, v2, v3, v4, v5⟩ := deed_cells P1.out.rw_.row c (by omega)
                generalize O j = oj at *
                generalize O c = oc at *
                generalize E j = ej at *
                generalize E c = ec at *
                obtain ⟨js, jd, jb, jg, ji⟩ := ej
                obtain ⟨cs, cd, cb, cg, ci⟩ := ec
                simp only at C u0 u1 u2 u3 u4 u5 v0 v1 v2 v3 v4 v5
                have ku0 := gw_cell u0
                have ku1 := gw_cell u1
                have ku2 := gw_cell u2
                have ku3 := gw_cell u3
                have ku4 := gw_cell u4
                have ku5 := gw_cell u5
                have kv0 := gw_cell v0
                have kv1 := gw_cell v1
                have kv2 := gw_cell v2
                have kv3 := gw_cell v3
                have kv4 := gw_cell v4
                have kv5 := gw_cell v5
                clear D hl hmin u0 u1 u2 u3 u4 u5 v0 v1 v2 v3 v4 v5
                have hne : Nonempty (GW W1) := ⟨⟨W1, Ke.refl _ _⟩⟩
                have hself := @gw_self W1
                have hself' : ∀ p : GW W1, ∃ q : GW W1, q.W = p.W := fun p => ⟨p, rfl⟩
                refine wp_region_gw (by kernel_rfl) (by kernel_rfl) ?_
                repeat (go_big_quiet_step (first | (go_at_call 10; exact gw_of (C.out _))))
                refine wpQuiet_nil ?_
                intro _ hw'
                obtain ⟨pp, hw''⟩ := hw'
                subst hw''
                have N := Lib.hid (P1.out.gr pp.gr)
                clear hself hself' hne P1 ku0 ku1 ku2 ku3 ku4 ku5 kv0 kv1 kv2 kv3 kv4 kv5 C
                generalize pp.W = W2 at *
                clear pp
                cases l
                · go_wp2
                  go_roundg (n - (j + 1))
                  case measure => omega
                  case rel => exact ⟨j + 1, a, (c : Int), rfl, rfl, by go_num, by omega, by omega, A1.out, hb2.out (by simp), N.out⟩
                · go_wp2
                  go_roundg (n - (j + 1))
                  case measure => omega
                  case rel => exact ⟨j + 1, a, (j : Int), rfl, rfl, by go_num, by omega, by omega, A1.out, hb1.out (by simp), N.out⟩
          · have hjz : ¬ (j : Int) < (n : Int) := by omega
            obtain rfl : j = n := by omega
            go_wp2
            go_meet
            exact ⟨a, b, rfl, rfl, D.out.1, D.out.2.1, D.out.2.2⟩
      case rest =>
        obtain ⟨a, b, rfl, rfl, AT', BT', P'⟩ := hcut
        obtain ⟨j, hj'⟩ : ∃ j, j = n := ⟨_, rfl⟩
        subst hj'
        have P := Lib.hid P'
        have AT := Lib.hid AT'
        have BT := Lib.hid BT'
        have c0' := P'.bx.b0
        clear P0 P' AT' BT'
        go_upto_block 4 with fail
        go_cut [6, 12] (fun s6 s12 wx => DidP w p k i s6 s12 wx)
        case first =>
          clear c0'
          generalize wc = wr at *
          by_cases gP : od = 0 ∨ od = 1 ∨ od = 2 ∨ od = 3
          · have b0 := P.out.bx.b0
            go_upto_if 68 with fail
            clear b0
            go_cut [68] (fun s68 wx => s68 = .bool true ∧ wx = wr)
            case first =>
              clear P AT BT HSS hsh hcap
              rcases gP with rfl | rfl | rfl | rfl
              all_goals
                go_wp2
                go_meet
                exact ⟨rfl, rfl⟩
            case rest =>
              obtain ⟨rfl, hw⟩ := hcut
              obtain rfl := hw.symm
              clear hw gP
              obtain ⟨b0, b1, b2, b3, b4, b5⟩ := P.out.bx
              simp only at b0 b1 b2 b3 b4 b5
              by_cases hbad : sd < 0 ∨ 65536 ≤ sd
              · have CP : Hid (∀ W, Gr wr W → Calls Try.prog 11 #[.pointer (some ⟨p, 0, none⟩), .int .i64 sd, .agg #[.int .i64 xd, .int .i64 xb, .int .i64 xg, .int .i64 xi]] W fun e w' => e = .returned (.int .i64 2) ∧ Gr W w') := fun W g => st_put_bad (P.out.hl.st.gr g) sd hbad ⟨xd, xb, xg, xi⟩
                have CV : Hid (∀ W, Calls Try.prog 12 #[.agg #[.int .i64 xd, .int .i64 xb, .int .i64 xg, .int .i64 xi]] W fun e w' => e = .returned (.agg #[.int .i64 xd, .int .i64 xb, .int .i64 xg, .int .i64 xi]) ∧ Gr W w') := fun W => made_any ⟨xd, xb, xg, xi⟩ W
                go_upto_region 27 with fail
                have kb0 := gw_cell b0
                have kb1 := gw_cell b1
                have kb2 := gw_cell b2
                have kb3 := gw_cell b3
                have kb4 := gw_cell b4
                have kb5 := gw_cell b5
                clear b0 b1 b2 b3 b4 b5
                have hne : Nonempty (GW wr) := ⟨⟨wr, Ke.refl _ _⟩⟩
                have hself := @gw_self wr
                have hself' : ∀ p : GW wr, ∃ q : GW wr, q.W = p.W := fun p => ⟨p, rfl⟩
                refine wp_region_gw_tail 6 (by kernel_rfl) (by kernel_rfl) ?_
                simp only [List.take_succ_cons, List.take_zero, List.drop_succ_cons, List.drop_zero]
                repeat (go_big_quiet_step (first | (go_at_call 12; exact gw_of (CV.out _))))
                refine wpQuiet_nil ?_
                intro _ hw'
                obtain ⟨pp, hw''⟩ := hw'
                subst hw''
                have b0 := kb0 pp
                have b1 := kb1 pp
                have b2 := kb2 pp
                have b3 := kb3 pp
                have b4 := kb4 pp
                have b5 := kb5 pp
                have G1 := Lib.hid pp.gr
                clear kb0 kb1 kb2 kb3 kb4 kb5 hself hself' hne CV
                generalize pp.W = W1 at *
                clear pp
                go_wp2_with fail
                refine (CP.out _ G1.out).mono ?_
                rintro e w5 ⟨rfl, g5⟩
                have P5 := Lib.hid ((P.out.gr G1.out).gr g5)
                replace b0 := gcell g5 b0
                replace b1 := gcell g5 b1
                replace b2 := gcell g5 b2
                replace b3 := gcell g5 b3
                replace b4 := gcell g5 b4
                replace b5 := gcell g5 b5
                have IN := Lib.hid (P5.out.done HSS.out)
                clear CP g5 P G1
                by_cases h0 : sd < 0
                · have d0 : decide (sd < 0) = true := by simp [h0]
                  go_wp2
                  go_meet
                  exact .inl ⟨ma, j, cap, by first | rfl | go_num, rfl, by omega, IN.out⟩
                · have d0 : decide (sd < 0) = false := by simp; omega
                  have d3 : decide (65536 ≤ sd) = true := by simp; omega
                  clear hbad
                  go_wp2
                  go_meet
                  exact .inl ⟨ma, j, cap, by first | rfl | go_num, rfl, by omega, IN.out⟩
              · obtain ⟨s, rfl⟩ : ∃ s : Nat, sd = s := ⟨sd.toNat, by omega⟩
                have hs6 : s < 65536 := by omega
                clear hbad
                have d0 : decide ((s : Int) < 0) = false := by simp
                have d3 : decide (65536 ≤ (s : Int)) = false := by simp; omega
                rcases AT.out with ⟨rfl, hno⟩ | ⟨c, rfl, hcj, hcs⟩
                · have hM : M s = none := HSS.out.has.none.2 (fun i hi e => hno i hi (by omega))
                  have CP : Hid (∀ W, Gr wr W → Calls Try.prog 11 #[.pointer (some ⟨p, 0, none⟩), .int .i64 s, .agg #[.int .i64 xd, .int .i64 xb, .int .i64 xg, .int .i64 xi]] W fun e w' => e = .returned (.int .i64 0) ∧ ∃ F', Hl w w' p k F' (j + 1) (upd M s (some ⟨xd, xb, xg, xi⟩)) ∧ Sv F F' W w') := fun W g => hl_put_new (P.out.gr g).hl s hs6 ⟨xd, xb, xg, xi⟩ hM
                  have HN : Hid (Hs (upd E j ⟨s, ⟨xd, xb, xg, xi⟩⟩) (j + 1) (upd M s (some ⟨xd, xb, xg, xi⟩))) := HSS.out.new hM ⟨xd, xb, xg, xi⟩
                  clear hM hno
                  have CV : Hid (∀ W, Calls Try.prog 12 #[.agg #[.int .i64 xd, .int .i64 xb, .int .i64 xg, .int .i64 xi]] W fun e w' => e = .returned (.agg #[.int .i64 xd, .int .i64 xb, .int .i64 xg, .int .i64 xi]) ∧ Gr W w') := fun W => made_any ⟨xd, xb, xg, xi⟩ W
                  go_upto_region 27 with fail
                  have kb0 := gw_cell b0
                  have kb1 := gw_cell b1
                  have kb2 := gw_cell b2
                  have kb3 := gw_cell b3
                  have kb4 := gw_cell b4
                  have kb5 := gw_cell b5
                  clear b0 b1 b2 b3 b4 b5
                  have hne : Nonempty (GW wr) := ⟨⟨wr, Ke.refl _ _⟩⟩
                  have hself := @gw_self wr
                  have hself' : ∀ p : GW wr, ∃ q : GW wr, q.W = p.W := fun p => ⟨p, rfl⟩
                  refine wp_region_gw_tail 6 (by kernel_rfl) (by kernel_rfl) ?_
                  simp only [List.take_succ_cons, List.take_zero, List.drop_succ_cons, List.drop_zero]
                  repeat (go_big_quiet_step (first | (go_at_call 12; exact gw_of (CV.out _))))
                  refine wpQuiet_nil ?_
                  intro _ hw'
                  obtain ⟨pp, hw''⟩ := hw'
                  subst hw''
                  have b0 := kb0 pp
                  have b1 := kb1 pp
                  have b2 := kb2 pp
                  have b3 := kb3 pp
                  have b4 := kb4 pp
                  have b5 := kb5 pp
                  have G1 := Lib.hid pp.gr
                  clear kb0 kb1 kb2 kb3 kb4 kb5 hself hself' hne CV
                  generalize pp.W = W1 at *
                  clear pp
                  go_wp2_with fail
                  refine (CP.out _ G1.out).mono ?_
                  rintro e w5 ⟨rfl, F5, H5, v5⟩
                  have P5 := Lib.hid ((P.out.gr G1.out).next H5 v5)
                  clear b0 b1 b2 b3 b4 b5
                  obtain ⟨b0, b1, b2, b3, b4, b5⟩ := P5.out.bx
                  simp only at b0 b1 b2 b3 b4 b5
                  obtain ⟨ma', cap', w6, hr6, in6⟩ := pl_push P5.out HN.out (by omega)
                  have HR := Lib.hid hr6
                  have IN := Lib.hid in6
                  clear CP H5 v5 P G1 P5 hr6 in6
                  have d9 : decide ((-1 : Int) ≥ 0) = false := by decide
                  go_wp2_with (at_builtin; refine Lib.wpList_append_run _ rfl _ _ 22 22 rfl _ _ rfl rfl _ _ (HR.out 22) ?_)
                  go_meet
                  exact .inl ⟨ma', (j + 1), cap', by first | rfl | go_num, rfl, by omega, IN.out⟩
                · have hM : M s = some (E c).r := by
                    have e : (E c).s = s := by omega
                    have := HSS.out.has.at_ hcj
                    rwa [e] at this
                  obtain ⟨g, rfl⟩ : ∃ g, ma = some ⟨g, 0, none⟩ := by
                    rcases hsh.out with ⟨_, e⟩ | e
                    · omega
                    · exact e
                  have CP : Hid (∀ W, Gr wr W → Calls Try.prog 11 #[.pointer (some ⟨p, 0, none⟩), .int .i64 s, .agg #[.int .i64 xd, .int .i64 xb, .int .i64 xg, .int .i64 xi]] W fun e w' => e = .returned (.int .i64 0) ∧ Hl w w' p k F j (upd M s (some ⟨xd, xb, xg, xi⟩)) ∧ Sv F F W w') := fun W g => hl_put_old (P.out.gr g).hl s hs6 ⟨xd, xb, xg, xi⟩ _ hM
                  have HN : Hid (Hs (upd E c ⟨(E c).s, ⟨xd, xb, xg, xi⟩⟩) j (upd M s (some ⟨xd, xb, xg, xi⟩))) := by
                    have e : (E c).s = s := by omega
                    have := HSS.out.put hcj ⟨xd, xb, xg, xi⟩
                    rw [e] at this ⊢
                    exact this
                  clear hM
                  have CV : Hid (∀ W, Calls Try.prog 12 #[.agg #[.int .i64 xd, .int .i64 xb, .int .i64 xg, .int .i64 xi]] W fun e w' => e = .returned (.agg #[.int .i64 xd, .int .i64 xb, .int .i64 xg, .int .i64 xi]) ∧ Gr W w') := fun W => made_any ⟨xd, xb, xg, xi⟩ W
                  go_upto_region 27 with fail
                  have kb0 := gw_cell b0
                  have kb1 := gw_cell b1
                  have kb2 := gw_cell b2
                  have kb3 := gw_cell b3
                  have kb4 := gw_cell b4
                  have kb5 := gw_cell b5
                  clear b0 b1 b2 b3 b4 b5
                  have hne : Nonempty (GW wr) := ⟨⟨wr, Ke.refl _ _⟩⟩
                  have hself := @gw_self wr
                  have hself' : ∀ p : GW wr, ∃ q : GW wr, q.W = p.W := fun p => ⟨p, rfl⟩
                  refine wp_region_gw_tail 6 (by kernel_rfl) (by kernel_rfl) ?_
                  simp only [List.take_succ_cons, List.take_zero, List.drop_succ_cons, List.drop_zero]
                  repeat (go_big_quiet_step (first | (go_at_call 12; exact gw_of (CV.out _))))
                  refine wpQuiet_nil ?_
                  intro _ hw'
                  obtain ⟨pp, hw''⟩ := hw'
                  subst hw''
                  have b0 := kb0 pp
                  have b1 := kb1 pp
                  have b2 := kb2 pp
                  have b3 := kb3 pp
                  have b4 := kb4 pp
                  have b5 := kb5 pp
                  have G1 := Lib.hid pp.gr
                  clear kb0 kb1 kb2 kb3 kb4 kb5 hself hself' hne CV
                  generalize pp.W = W1 at *
                  clear pp
                  go_wp2_with fail
                  refine (CP.out _ G1.out).mono ?_
                  rintro e w5 ⟨rfl, H5, v5⟩
                  have P5 := Lib.hid ((P.out.gr G1.out).next H5 v5)
                  clear b0 b1 b2 b3 b4 b5
                  obtain ⟨b0, b1, b2, b3, b4, b5⟩ := P5.out.bx
                  simp only at b0 b1 b2 b3 b4 b5
                  have in6 := pl_put P5.out c HN.out
                  have IN := Lib.hid in6
                  obtain ⟨v0, v1, v2, v3, v4, v5'⟩ := deed_cells P5.out.rw_.row c hcj
                  have f2 := P5.out.rw_.row.frozen (c * 6 + 2)
                  have f3 := P5.out.rw_.row.frozen (c * 6 + 3)
                  have f4 := P5.out.rw_.row.frozen (c * 6 + 4)
                  have f5 := P5.out.rw_.row.frozen (c * 6 + 5)
                  clear CP H5 v5 P G1 P5 in6 hcs
                  have d9 : decide ((c : Int) ≥ 0) = true := by simp
                  have hcz : (c : Int) < (j : Int) := by omega
                  have d8 : decide ((-1 : Int) ≥ 0) = false := by decide
                  go_wp2
                  go_meet
                  exact .inl ⟨(some ⟨g, 0, none⟩), j, cap, by first | rfl | go_num, rfl, by omega, IN.out⟩
          · by_cases g4 : od = 4
            · as_aux_lemma =>
                subst g4
                rcases BT.out with ⟨hbm, hj0⟩ | ⟨c, rfl, hcj, hmin⟩
                · obtain rfl := hbm
                  obtain rfl := hj0
                  have d8 : decide ((-1 : Int) ≥ 0) = false := by decide
                  have b0 := P.out.bx.b0
                  have C := Lib.hid (st_top_none P.out.hl.st)
                  go_wp2_with fail
                  refine C.out.mono ?_
                  rintro e w5 ⟨rfl, g5⟩
                  have P5 := Lib.hid (P.out.gr g5)
                  clear C g5 P
                  replace b0 := P5.out.bx.b0
                  have hB5 : B < w5.heap.size := lt_of_cell b0
                  have hB6 : ¬ B = w5.heap.size := by omega
                  have P6 := Lib.hid (P5.out.gr ((Ke.refl _ _).alloc (.cells #[.int .i64 0, .int .i64 0, .int .i64 0, .int .i64 0] 33)))
                  have C := Lib.hid (st_pop_none P6.out.hl.st)
                  have b0' := P6.out.bx.b0
                  go_wp2_with fail
                  refine C.out.mono ?_
                  rintro e w6 ⟨rfl, g6⟩
                  have x0 : w6.cell? ⟨w5.heap.size, 0, none⟩ = some (.int .i64 0) := gcell g6 (by simp [go_sem])
                  have x1 : w6.cell? ⟨w5.heap.size, 1, none⟩ = some (.int .i64 0) := gcell g6 (by simp [go_sem])
                  have x2 : w6.cell? ⟨w5.heap.size, 2, none⟩ = some (.int .i64 0) := gcell g6 (by simp [go_sem])
                  have x3 : w6.cell? ⟨w5.heap.size, 3, none⟩ = some (.int .i64 0) := gcell g6 (by simp [go_sem])
                  have z : ∀ o, w6.frozen? ⟨w5.heap.size, o, none⟩ = false := fun o => (g6.frozen (p := ⟨w5.heap.size, o, none⟩) (by simp) (fun q => q)).trans (by simp)
                  have z0 := z 0
                  have z1 := z 1
                  have z2 := z 2
                  have z3 := z 3
                  have hX : ¬ w.heap.size > w5.heap.size := by have := P5.out.hl.below.size; omega
                  have P7 := Lib.hid (P6.out.gr g6)
                  have nX : Hid (¬ F w5.heap.size ∧ (Value.slice ma (0 : Nat) cap).ownBlock ≠ some w5.heap.size ∧ B ≠ w5.heap.size ∧ w.heap.size ≤ w5.heap.size) := ⟨fun q => by have := (P5.out.hl.st.lt q).2; omega, fun q => by have := (P5.out.rw_.row.lt q).2; omega, by have : B < w5.heap.size := lt_of_cell P5.out.bx.b0; omega, P5.out.hl.below.size⟩
                  clear C g6 P6 P5 z b0 b0' hX
                  generalize w5.heap.size = X at *
                  have P8 := Lib.hid (Pl.far4 P7.out X nX.out.1 nX.out.2.1 nX.out.2.2.1 nX.out.2.2.2 (.int .i64 0) (.int .i64 0) (.int .i64 0) (.int .i64 0))
                  go_upto_region 42 with fail
                  obtain ⟨W8, hW8⟩ : ∃ W8, W8 = ((((w6.setCell ⟨X, 0, none⟩ (.int .i64 0)).setCell ⟨X, 1, none⟩ (.int .i64 0)).setCell ⟨X, 2, none⟩ (.int .i64 0)).setCell ⟨X, 3, none⟩ (.int .i64 0)) := ⟨_, rfl⟩
                  have y0 : W8.cell? ⟨X, 0, none⟩ = some (.int .i64 0) := by rw [hW8]; simp [go_sem, x0]
                  have y1 : W8.cell? ⟨X, 1, none⟩ = some (.int .i64 0) := by rw [hW8]; simp [go_sem, x1]
                  have y2 : W8.cell? ⟨X, 2, none⟩ = some (.int .i64 0) := by rw [hW8]; simp [go_sem, x2]
                  have y3 : W8.cell? ⟨X, 3, none⟩ = some (.int .i64 0) := by rw [hW8]; simp [go_sem, x3]
                  rw [← hW8] at P8 ⊢
                  clear hW8 x0 x1 x2 x3 z0 z1 z2 z3 P7
                  have CV : Hid (∀ W, Calls Try.prog 12 #[.agg #[.int .i64 0, .int .i64 0, .int .i64 0, .int .i64 0]] W fun e w' => e = .returned (.agg #[.int .i64 0, .int .i64 0, .int .i64 0, .int .i64 0]) ∧ Gr W w') := fun W => made_any ⟨0, 0, 0, 0⟩ W
                  have ky0 := gw_cell y0
                  have ky1 := gw_cell y1
                  have ky2 := gw_cell y2
                  have ky3 := gw_cell y3
                  clear y0 y1 y2 y3
                  have hne : Nonempty (GW W8) := ⟨⟨W8, Ke.refl _ _⟩⟩
                  have hself := @gw_self W8
                  have hself' : ∀ p : GW W8, ∃ q : GW W8, q.W = p.W := fun p => ⟨p, rfl⟩
                  refine wp_region_gw (by kernel_rfl) (by kernel_rfl) ?_
                  repeat (go_big_quiet_step (first | (go_at_call 12; exact gw_of (CV.out _))))
                  refine wpQuiet_nil ?_
                  intro _ hw'
                  obtain ⟨pp, hw''⟩ := hw'
                  subst hw''
                  have P9 := Lib.hid (P8.out.gr pp.gr)
                  clear ky0 ky1 ky2 ky3 hself hself' hne CV P8
                  generalize pp.W = W9 at *
                  clear pp
                  have IN := Lib.hid (P9.out.done HSS.out)
                  go_wp2
                  go_meet
                  exact .inl ⟨ma, 0, cap, by first | rfl | go_num, rfl, by omega, IN.out⟩
                · obtain ⟨g, rfl⟩ : ∃ g, ma = some ⟨g, 0, none⟩ := by
                    rcases hsh.out with ⟨_, e⟩ | e
                    · omega
                    · exact e
                  have hcz : (c : Int) < (j : Int) := by omega
                  have d9 : decide ((c : Int) ≥ 0) = true := by simp
                  have d8 : decide ((-1 : Int) ≥ 0) = false := by decide
                  have hf := HSS.out.first (k := k) hcj hmin
                  have b0 := P.out.bx.b0
                  have C := Lib.hid (st_top P.out.hl.st _ _ hf)
                  have HF := Lib.hid hf
                  have HC := Lib.hid (show ∀ m, j = m + 1 → Hs (cut E c) m (upd M (E c).s none) from fun m e => by subst e; exact HSS.out.cut hcj)
                  obtain ⟨ec, hec⟩ : ∃ ec, E c = ec := ⟨_, rfl⟩
                  have HEC := Lib.hid hec
                  rw [hec] at C HF HC
                  obtain ⟨cs, cd, cb, cg, ci⟩ := ec
                  simp only at C HF HC
                  clear hf hmin hec
                  go_wp2_with fail
                  refine C.out.mono ?_
                  rintro e w5 ⟨rfl, g5⟩
                  have P5 := Lib.hid (P.out.gr g5)
                  clear C g5 P b0
                  have b0 := P5.out.bx.b0
                  have hB5 : B < w5.heap.size := lt_of_cell b0
                  have hB6 : ¬ B = w5.heap.size := by omega
                  obtain ⟨m, hm⟩ : ∃ m, j = m + 1 := ⟨j - 1, by omega⟩
                  have HM := Lib.hid hm
                  have P6 := Lib.hid (P5.out.gr ((Ke.refl _ _).alloc (.cells #[.int .i64 cd, .int .i64 cb, .int .i64 cg, .int .i64 ci] 33)))
                  have b0' := P6.out.bx.b0
                  have C := Lib.hid (hl_pop' P6.out.hl hm cs ⟨cd, cb, cg, ci⟩ HF.out)
                  clear hm
                  go_wp2_with fail
                  refine C.out.mono ?_
                  rintro e w6 ⟨rfl, H6, v6⟩
                  have nX : Hid (¬ F w5.heap.size ∧ (Value.slice (some ⟨g, 0, none⟩) j cap).ownBlock ≠ some w5.heap.size ∧ B ≠ w5.heap.size ∧ w.heap.size ≤ w5.heap.size) := ⟨fun q => by have := (P5.out.hl.st.lt q).2; omega, fun q => by have := (P5.out.rw_.row.lt q).2; omega, by have : B < w5.heap.size := lt_of_cell P5.out.bx.b0; omega, P5.out.hl.below.size⟩
                  have x0 : w6.cell? ⟨w5.heap.size, 0, none⟩ = some (.int .i64 cd) := (v6.ke.cell (p := ⟨w5.heap.size, 0, none⟩) (by simp) nX.out.1).trans (by simp [go_sem])
                  have x1 : w6.cell? ⟨w5.heap.size, 1, none⟩ = some (.int .i64 cb) := (v6.ke.cell (p := ⟨w5.heap.size, 1, none⟩) (by simp) nX.out.1).trans (by simp [go_sem])
                  have x2 : w6.cell? ⟨w5.heap.size, 2, none⟩ = some (.int .i64 cg) := (v6.ke.cell (p := ⟨w5.heap.size, 2, none⟩) (by simp) nX.out.1).trans (by simp [go_sem])
                  have x3 : w6.cell? ⟨w5.heap.size, 3, none⟩ = some (.int .i64 ci) := (v6.ke.cell (p := ⟨w5.heap.size, 3, none⟩) (by simp) nX.out.1).trans (by simp [go_sem])
                  have z : ∀ o, w6.frozen? ⟨w5.heap.size, o, none⟩ = false := fun o => (v6.ke.frozen (p := ⟨w5.heap.size, o, none⟩) (by simp) nX.out.1).trans (by simp)
                  have z0 := z 0
                  have z1 := z 1
                  have z2 := z 2
                  have z3 := z 3
                  have P7 := Lib.hid (P6.out.next H6 v6)
                  clear C H6 v6 P6 P5 z b0 b0'
                  generalize w5.heap.size = X at *
                  have P8 := Lib.hid (Pl.far4 P7.out X nX.out.1 nX.out.2.1 nX.out.2.2.1 nX.out.2.2.2 (.int .i64 cd) (.int .i64 cb) (.int .i64 cg) (.int .i64 ci))
                  go_upto_region 42 with fail
                  obtain ⟨W8, hW8⟩ : ∃ W8, W8 = ((((w6.setCell ⟨X, 0, none⟩ (.int .i64 cd)).setCell ⟨X, 1, none⟩ (.int .i64 cb)).setCell ⟨X, 2, none⟩ (.int .i64 cg)).setCell ⟨X, 3, none⟩ (.int .i64 ci)) := ⟨_, rfl⟩
                  have y0 : W8.cell? ⟨X, 0, none⟩ = some (.int .i64 cd) := by rw [hW8]; simp [go_sem, x0]
                  have y1 : W8.cell? ⟨X, 1, none⟩ = some (.int .i64 cb) := by rw [hW8]; simp [go_sem, x1]
                  have y2 : W8.cell? ⟨X, 2, none⟩ = some (.int .i64 cg) := by rw [hW8]; simp [go_sem, x2]
                  have y3 : W8.cell? ⟨X, 3, none⟩ = some (.int .i64 ci) := by rw [hW8]; simp [go_sem, x3]
                  rw [← hW8] at P8 ⊢
                  clear hW8 x0 x1 x2 x3 z0 z1 z2 z3 P7
                  have CV : Hid (∀ W, Calls Try.prog 12 #[.agg #[.int .i64 cd, .int .i64 cb, .int .i64 cg, .int .i64 ci]] W fun e w' => e = .returned (.agg #[.int .i64 cd, .int .i64 cb, .int .i64 cg, .int .i64 ci]) ∧ Gr W w') := fun W => made_any ⟨cd, cb, cg, ci⟩ W
                  obtain ⟨v0, v1, v2, v3, v4, v5⟩ := deed_cells P8.out.rw_.row c hcj
                  rw [HEC.out] at v1 v2 v3 v4 v5
                  simp only at v1 v2 v3 v4 v5
                  have ky0 := gw_cell y0
                  have ky1 := gw_cell y1
                  have ky2 := gw_cell y2
                  have ky3 := gw_cell y3
                  have kv1 := gw_cell v1
                  have kv2 := gw_cell v2
                  have kv3 := gw_cell v3
                  have kv4 := gw_cell v4
                  have kv5 := gw_cell v5
                  clear y0 y1 y2 y3 v0 v1 v2 v3 v4 v5
                  have hne : Nonempty (GW W8) := ⟨⟨W8, Ke.refl _ _⟩⟩
                  have hself := @gw_self W8
                  have hself' : ∀ p : GW W8, ∃ q : GW W8, q.W = p.W := fun p => ⟨p, rfl⟩
                  refine wp_region_gw (by kernel_rfl) (by kernel_rfl) ?_
                  repeat (go_big_quiet_step (first | (go_at_call 12; exact gw_of (CV.out _))))
                  refine wpQuiet_nil ?_
                  intro _ hw'
                  obtain ⟨pp, hw''⟩ := hw'
                  subst hw''
                  have P9 := Lib.hid (P8.out.gr pp.gr)
                  clear ky0 ky1 ky2 ky3 kv1 kv2 kv3 kv4 kv5 hself hself' hne CV P8
                  generalize pp.W = W9 at *
                  clear pp
                  have HN := Lib.hid (HC.out m HM.out)
                  clear HC HF
                  go_wp2
                  go_meet
                  exact .inr ⟨g, j, cap, c, m, F, _, O, E, rfl, rfl, HM.out, hcj, hni, hcap.out.1, hcap.out.2, P9.out.hl, P9.out.rw_, HN.out⟩
            · by_cases g5 : od = 5
              · as_aux_lemma =>
                  subst g5
                  rcases BT.out with ⟨hbm, hj0⟩ | ⟨c, rfl, hcj, hmin⟩
                  · obtain rfl := hbm
                    obtain rfl := hj0
                    have d8 : decide ((-1 : Int) ≥ 0) = false := by decide
                    have b0 := P.out.bx.b0
                    have C := Lib.hid (st_top_none P.out.hl.st)
                    go_wp2_with fail
                    refine C.out.mono ?_
                    rintro e w5 ⟨rfl, g5⟩
                    have P5 := Lib.hid (P.out.gr g5)
                    clear C g5 P
                    replace b0 := P5.out.bx.b0
                    have hB5 : B < w5.heap.size := lt_of_cell b0
                    have hB6 : ¬ B = w5.heap.size := by omega
                    go_upto_region 42 with fail
                    obtain ⟨W8, hW8⟩ : ∃ W8, W8 = w5.alloc (.cells #[.int .i64 0, .int .i64 0, .int .i64 0, .int .i64 0] 33) := ⟨_, rfl⟩
                    have P8 : Hid (Pl w W8 p k F 0 M (.slice ma 0 cap) 0 O E B 5 sd ⟨xd, xb, xg, xi⟩) := by rw [hW8]; exact P5.out.gr ((Ke.refl _ _).alloc _)
                    have y0 : W8.cell? ⟨w5.heap.size, 0, none⟩ = some (.int .i64 0) := by rw [hW8]; simp [go_sem]
                    have y1 : W8.cell? ⟨w5.heap.size, 1, none⟩ = some (.int .i64 0) := by rw [hW8]; simp [go_sem]
                    have y2 : W8.cell? ⟨w5.heap.size, 2, none⟩ = some (.int .i64 0) := by rw [hW8]; simp [go_sem]
                    have y3 : W8.cell? ⟨w5.heap.size, 3, none⟩ = some (.int .i64 0) := by rw [hW8]; simp [go_sem]
                    rw [← hW8]
                    clear hW8 P5 b0
                    generalize w5.heap.size = X at *
                    have CV : Hid (∀ W, Calls Try.prog 12 #[.agg #[.int .i64 0, .int .i64 0, .int .i64 0, .int .i64 0]] W fun e w' => e = .returned (.agg #[.int .i64 0, .int .i64 0, .int .i64 0, .int .i64 0]) ∧ Gr W w') := fun W => made_any ⟨0, 0, 0, 0⟩ W
                    have ky0 := gw_cell y0
                    have ky1 := gw_cell y1
                    have ky2 := gw_cell y2
                    have ky3 := gw_cell y3
                    clear y0 y1 y2 y3
                    have hne : Nonempty (GW W8) := ⟨⟨W8, Ke.refl _ _⟩⟩
                    have hself := @gw_self W8
                    have hself' : ∀ p : GW W8, ∃ q : GW W8, q.W = p.W := fun p => ⟨p, rfl⟩
                    refine wp_region_gw (by kernel_rfl) (by kernel_rfl) ?_
                    repeat (go_big_quiet_step (first | (go_at_call 12; exact gw_of (CV.out _))))
                    refine wpQuiet_nil ?_
                    intro _ hw'
                    obtain ⟨pp, hw''⟩ := hw'
                    subst hw''
                    have P9 := Lib.hid (P8.out.gr pp.gr)
                    clear ky0 ky1 ky2 ky3 hself hself' hne CV P8
                    generalize pp.W = W9 at *
                    clear pp
                    have IN := Lib.hid (P9.out.done HSS.out)
                    go_wp2
                    go_meet
                    exact .inl ⟨ma, 0, cap, by first | rfl | go_num, rfl, by omega, IN.out⟩
                  · obtain ⟨g, rfl⟩ : ∃ g, ma = some ⟨g, 0, none⟩ := by
                      rcases hsh.out with ⟨_, e⟩ | e
                      · omega
                      · exact e
                    have hcz : (c : Int) < (j : Int) := by omega
                    have d9 : decide ((c : Int) ≥ 0) = true := by simp
                    have d8 : decide ((-1 : Int) ≥ 0) = false := by decide
                    have hf := HSS.out.first (k := k) hcj hmin
                    have b0 := P.out.bx.b0
                    have C := Lib.hid (st_top P.out.hl.st _ _ hf)
                    obtain ⟨ec, hec⟩ : ∃ ec, E c = ec := ⟨_, rfl⟩
                    have HEC := Lib.hid hec
                    rw [hec] at C
                    obtain ⟨cs, cd, cb, cg, ci⟩ := ec
                    simp only at C
                    clear hf hmin hec
                    go_wp2_with fail
                    refine C.out.mono ?_
                    rintro e w5 ⟨rfl, g5⟩
                    have P5 := Lib.hid (P.out.gr g5)
                    clear C g5 P b0
                    have b0 := P5.out.bx.b0
                    have hB5 : B < w5.heap.size := lt_of_cell b0
                    have hB6 : ¬ B = w5.heap.size := by omega
                    go_upto_region 42 with fail
                    obtain ⟨W8, hW8⟩ : ∃ W8, W8 = w5.alloc (.cells #[.int .i64 cd, .int .i64 cb, .int .i64 cg, .int .i64 ci] 33) := ⟨_, rfl⟩
                    have P8 : Hid (Pl w W8 p k F j M (.slice (some ⟨g, 0, none⟩) j cap) j O E B 5 sd ⟨xd, xb, xg, xi⟩) := by rw [hW8]; exact P5.out.gr ((Ke.refl _ _).alloc _)
                    have y0 : W8.cell? ⟨w5.heap.size, 0, none⟩ = some (.int .i64 cd) := by rw [hW8]; simp [go_sem]
                    have y1 : W8.cell? ⟨w5.heap.size, 1, none⟩ = some (.int .i64 cb) := by rw [hW8]; simp [go_sem]
                    have y2 : W8.cell? ⟨w5.heap.size, 2, none⟩ = some (.int .i64 cg) := by rw [hW8]; simp [go_sem]
                    have y3 : W8.cell? ⟨w5.heap.size, 3, none⟩ = some (.int .i64 ci) := by rw [hW8]; simp [go_sem]
                    rw [← hW8]
                    clear hW8 P5 b0
                    generalize w5.heap.size = X at *
                    have CV : Hid (∀ W, Calls Try.prog 12 #[.agg #[.int .i64 cd, .int .i64 cb, .int .i64 cg, .int .i64 ci]] W fun e w' => e = .returned (.agg #[.int .i64 cd, .int .i64 cb, .int .i64 cg, .int .i64 ci]) ∧ Gr W w') := fun W => made_any ⟨cd, cb, cg, ci⟩ W
                    obtain ⟨v0, v1, v2, v3, v4, v5⟩ := deed_cells P8.out.rw_.row c hcj
                    rw [HEC.out] at v1 v2 v3 v4 v5
                    simp only at v1 v2 v3 v4 v5
                    have ky0 := gw_cell y0
                    have ky1 := gw_cell y1
                    have ky2 := gw_cell y2
                    have ky3 := gw_cell y3
                    have kv1 := gw_cell v1
                    have kv2 := gw_cell v2
                    have kv3 := gw_cell v3
                    have kv4 := gw_cell v4
                    have kv5 := gw_cell v5
                    clear y0 y1 y2 y3 v0 v1 v2 v3 v4 v5
                    have hne : Nonempty (GW W8) := ⟨⟨W8, Ke.refl _ _⟩⟩
                    have hself := @gw_self W8
                    have hself' : ∀ p : GW W8, ∃ q : GW W8, q.W = p.W := fun p => ⟨p, rfl⟩
                    refine wp_region_gw (by kernel_rfl) (by kernel_rfl) ?_
                    repeat (go_big_quiet_step (first | (go_at_call 12; exact gw_of (CV.out _))))
                    refine wpQuiet_nil ?_
                    intro _ hw'
                    obtain ⟨pp, hw''⟩ := hw'
                    subst hw''
                    have P9 := Lib.hid (P8.out.gr pp.gr)
                    clear ky0 ky1 ky2 ky3 kv1 kv2 kv3 kv4 kv5 hself hself' hne CV P8
                    generalize pp.W = W9 at *
                    clear pp
                    have IN := Lib.hid (P9.out.done HSS.out)
                    go_wp2
                    go_meet
                    exact .inl ⟨(some ⟨g, 0, none⟩), j, cap, by first | rfl | go_num, rfl, by omega, IN.out⟩
              · by_cases g6 : od = 6
                · as_aux_lemma =>
                    subst g6
                    rcases AT.out with ⟨rfl, hno⟩ | ⟨c, rfl, hcj, hcs⟩
                    · have b0 := P.out.bx.b0
                      have b1 := P.out.bx.b1
                      have hno' : ∀ s : Nat, sd = s → M s = none := fun s e => HSS.out.has.none.2 (fun i hi e2 => hno i hi (by omega))
                      have C := Lib.hid (hl_drop_none P.out.hl sd hno')
                      have IN := Lib.hid (P.out.done HSS.out)
                      have d8 : decide ((-1 : Int) ≥ 0) = false := by decide
                      clear hno hno'
                      go_wp2_with fail
                      refine C.out.mono ?_
                      rintro e w5 ⟨rfl, hw⟩
                      obtain rfl := hw.symm
                      clear hw C
                      go_wp2
                      go_meet
                      exact .inl ⟨ma, j, cap, by first | rfl | go_num, rfl, by omega, IN.out⟩
                    · obtain ⟨g, rfl⟩ : ∃ g, ma = some ⟨g, 0, none⟩ := by
                        rcases hsh.out with ⟨_, e⟩ | e
                        · omega
                        · exact e
                      have hcz : (c : Int) < (j : Int) := by omega
                      have d9 : decide ((c : Int) ≥ 0) = true := by simp
                      have b0 := P.out.bx.b0
                      have b1 := P.out.bx.b1
                      obtain ⟨m, hm⟩ : ∃ m, j = m + 1 := ⟨j - 1, by omega⟩
                      have HM := Lib.hid hm
                      obtain ⟨s, hs⟩ : ∃ s, (E c).s = s := ⟨_, rfl⟩
                      have hM : M s = some (E c).r := by
                        have := HSS.out.has.at_ hcj
                        rwa [hs] at this
                      have HN : Hid (Hs (cut E c) m (upd M s none)) := by
                        have := HSS.out
                        rw [hm] at this
                        have h2 := this.cut (c := c) (by omega)
                        rw [hs] at h2
                        exact h2
                      have C : Hid (Calls Try.prog 15 #[.pointer (some ⟨p, 0, none⟩), .int .i64 (s : Int)] wr fun e w' => e = .returned (.bool true) ∧ Hl w w' p k F m (upd M s none) ∧ Sv F F wr w') := by
                        have h6 := P.out.hl
                        rw [hm] at h6
                        exact hl_drop h6 s _ hM
                      obtain rfl : (s : Int) = sd := by omega
                      clear hm hM hs hcs
                      go_wp2_with fail
                      refine C.out.mono ?_
                      rintro e w5 ⟨rfl, H5, v5⟩
                      have P5 := Lib.hid (P.out.next H5 v5)
                      clear C H5 v5 P b0 b1
                      go_wp2
                      go_meet
                      exact .inr ⟨g, j, cap, c, m, F, _, O, E, rfl, rfl, HM.out, hcj, hni, hcap.out.1, hcap.out.2, P5.out.hl, P5.out.rw_, HN.out⟩
                · have n0 : (od == 0) = false := beq_eq_false_iff_ne.2 (fun e => gP (by omega))
                  have n1 : (od == 1) = false := beq_eq_false_iff_ne.2 (fun e => gP (by omega))
                  have n2 : (od == 2) = false := beq_eq_false_iff_ne.2 (fun e => gP (by omega))
                  have n3 : (od == 3) = false := beq_eq_false_iff_ne.2 (fun e => gP (by omega))
                  have n4 : (od == 4) = false := by simp [g4]
                  have n5 : (od == 5) = false := by simp [g5]
                  have n6 : (od == 6) = false := by simp [g6]
                  have b0 := P.out.bx.b0
                  have IN := Lib.hid (P.out.done HSS.out)
                  have d8 : decide ((-1 : Int) ≥ 0) = false := by decide
                  go_wp2
                  go_meet
                  exact .inl ⟨ma, j, cap, by first | rfl | go_num, rfl, by omega, IN.out⟩
        case rest =>
          clear P AT BT HSS c0' hsh hcap
          rcases hcut with ⟨ma', n', cap', rfl, rfl, hn', in6⟩ | ⟨g, j, cap, c, m, F, M, O, E, rfl, rfl, hm, hcj, hji, hjc, hcm, H9, R9, HN'⟩
          · have IN := Lib.hid in6
            have HL6 := Lib.hid (inv_len in6)
            have d8 : decide ((-1 : Int) ≥ 0) = false := by decide
            clear in6
            go_wp2_with fail
            refine HL6.out.mono ?_
            rintro e w9 ⟨rfl, hw⟩
            obtain rfl := hw.symm
            clear hw HL6
            go_wp2
            go_roundg (N - (i + 1))
            case measure => omega
            case rel => exact ⟨i + 1, n', ma', cap', rfl, by go_num, by omega, by omega, by omega, IN.out⟩
          · have HM := Lib.hid hm
            unfold maxLen at hcm
            have d9 : decide ((c : Int) ≥ 0) = true := by simp
            obtain ⟨c1, hc1⟩ : ∃ c1, c1 = c + 1 := ⟨_, rfl⟩
            have ew : IntKind.i64.wrap ((c : Int) + 1) = (c1 : Int) := by rw [IntKind.wrap_i64]; omega
            have hc1z : (c1 : Int) ≤ (j : Int) := by omega
            have hc1j : c1 ≤ j := by omega
            obtain ⟨A2, hA2, hadd⟩ := slice_at g cap c c1 m j hm hc1 hcj hjc
            obtain ⟨u1, w11, ma', cap', w12, hr1, hr2, in12⟩ := pl_cut' H9 R9 hm c hcj HN' (by omega) A2 hadd (j - c1) (by omega) (cap - c1)
            have HR1 := Lib.hid hr1
            have HR2 := Lib.hid hr2
            have IN := Lib.hid in12
            have HL6 := Lib.hid (inv_len in12)
            have hmj : m ≤ j := by omega
            have hczz : (c : Int) ≤ (cap : Int) := by omega
            clear H9 R9 HN' hr1 hr2 in12 hadd hc1 hm
            go_upto_region 49 with fail
            go_region_law (first | refine step_append_run rfl (.tmp 175) (.tmp 178) 22 rfl _ _ rfl rfl _ _ HR1.out ?_ | refine step_append_run rfl (.tmp 179) (.tmp 183) 22 rfl _ _ rfl rfl _ _ HR2.out ?_)
            go_wp2_with fail
            refine HL6.out.mono ?_
            rintro e w9 ⟨rfl, hw⟩
            obtain rfl := hw.symm
            clear hw HL6
            go_wp2
            go_roundg (N - (i + 1))
            case measure => omega
            case rel => exact ⟨i + 1, m, ma', cap', rfl, by go_num, by omega, by omega, by omega, IN.out⟩
    · have hltz : ¬ (i : Int) < (N : Int) := by omega
      obtain ⟨F, M, O, E, HL, RW, HS⟩ := D.out
      have HH := Lib.hid HL.below
      clear D HL RW HS
      go_wp2
      go_ret
      exact ⟨rfl, HH.out⟩
end Go.Proofs.Ytfbgjlfepnbcgaa
