/- The heap: contracts of down, settle. -/
import Derived.Test.YtkapejgokcpbiaaG6
namespace Go.Proofs.Ytkapejgokcpbiaa
open Go.RowKit Go.Lib
set_option linter.unusedVariables false

theorem fb_congr {k : Int} {T T1 : Nat → En} {n s : Nat} (h : ∀ i, i ≠ s → T1 i = T i) : fb k T1 n s = fb k T n s := by
  unfold fb
  rw [h (2 * s + 1) (by omega), h (2 * s + 2) (by omega)]

/-- What down, settle leave. -/
def DnP (w : World) (base p : Nat) (k : Int) (v u : Value) (n L : Nat) (T : Nat → En) (w' : World) : Prop :=
  ∃ T2 S2, Mem w' base p k v u n T2 L S2 ∧ Hp k T2 n ∧ Idx T2 n S2 L n ∧ Same n T T2 ∧ Ke (Foot p v u) w w'

set_option maxRecDepth 100000 in
set_option maxHeartbeats 4000000 in
theorem down_any (w : World) (base p : Nat) (k : Int) (v u : Value) (n : Nat) (T : Nat → En) (L : Nat) (S : Nat → Nat) (h : Mem w base p k v u n T L S) (x : Idx T n S L n) (s : Nat) (o : DnI k T n s) :
    Calls Try.prog 45 #[.pointer (some ⟨p, 0, none⟩), .int .i64 s] w fun x w' => x = .returned (.tuple #[]) ∧ DnP w base p k v u n L T w' := by
  have hs := o.lt
  obtain ⟨g, cap, rfl, bg, lg, nc, cm⟩ := h.tr.form (by omega)
  have c1 := h.c1
  have hn6 := h.n6
  have hsz : (s : Int) < (n : Int) := by omega
  obtain ⟨t0, t1, t2, t3, t4⟩ := tree_cells h.tr s hs
  obtain ⟨en, hen⟩ : ∃ en, T s = en := ⟨_, rfl⟩
  have nb : ¬ Foot p (.slice (some ⟨g, 0, none⟩) n cap) u w.heap.size := fun q => by have := (h.lt q).2; omega
  have I0 : Hid (∀ w', Box w' w.heap.size en → Gr w w' → DnI k T n s ∧ Sf w w' base p k (.slice (some ⟨g, 0, none⟩) n cap) u n L w.heap.size en T T T S s) := fun w' hb q => ⟨o, by rw [← hen]; rw [← hen] at hb; exact Sf.start h x hb q nb⟩
  rw [hen] at t0 t1 t2 t3 t4
  clear h x o hen nb
  obtain ⟨es, ed, eb, eg, ei⟩ := en
  simp only at t0 t1 t2 t3 t4
  go_enter Try.func45, Try.ntmps45
  go_wp2_with fail
  go_loopg [1] (n - s) (fun kx s1 wr => ∃ (t : Nat) (T2 T1 : Nat → En) (S1 : Nat → Nat), s1 = .int .i64 t ∧ n - t ≤ kx ∧ Aside (DnI k T2 n t ∧ Sf w wr base p k (.slice (some ⟨g, 0, none⟩) n cap) u n L w.heap.size ⟨es, ed, eb, eg, ei⟩ T T2 T1 S1 t))
  case atStart =>
    exact ⟨s, T, T, S, rfl, Nat.le_refl _, I0.out _ ⟨by simp [go_sem], by simp [go_sem], by simp [go_sem], by simp [go_sem], by simp [go_sem]⟩ ((Ke.refl _ _).alloc _)⟩
  case round =>
    clear I0 t0 t1 t2 t3 t4 c1 hsz hs
    obtain ⟨t, T2, T1, S1, rfl, hkx, A⟩ := hrel
    have htn : t < n := A.out.1.lt
    have fin : ∀ W, Gr wr W → (∀ j, 0 < j → j < n → par j = t → ahead k (T2 j) ⟨es, ed, eb, eg, ei⟩ = false) → Calls Try.prog 41 #[.pointer (some ⟨p, 0, none⟩), .int .i64 t, VE ⟨es, ed, eb, eg, ei⟩] W fun x w' => x = .returned (.tuple #[]) ∧ DnP w base p k (.slice (some ⟨g, 0, none⟩) n cap) u n L T w' := fun W gW hd => by
      have F := A.out.2.gr gW
      have he : (⟨es, ed, eb, eg, ei⟩ : En).s < L := by have := F.idx.lt t htn; rw [F.at_] at this; exact this
      refine (set_any W base p k _ u n T1 L S1 F.mem t htn ⟨es, ed, eb, eg, ei⟩ he).mono ?_
      rintro e W2 ⟨rfl, m, q⟩
      obtain ⟨m2, x2⟩ := F.fin m htn
      exact ⟨rfl, T2, _, m2, dn_done A.out.1 (by rw [F.at_]; exact hd), x2, F.same, F.ke.trans q⟩
    have FIN := Lib.hid fin
    clear fin
    have CB := Lib.hid (fb_any wr base p k _ u n T1 L S1 A.out.2.mem t htn)
    rw [fb_congr A.out.2.eq] at CB
    rcases fb_spec k T2 n t with ⟨hf, hn⟩ | ⟨c, hf, hc0, hcn, hcp, hct, hfirst⟩
    · rw [hf] at CB
      have HN := Lib.hid hn
      clear hf hn
      go_wp2_with fail
      refine CB.out.mono ?_
      rintro e W4 ⟨rfl, g4⟩
      obtain ⟨b0, b1, b2, b3, b4⟩ := (A.out.2.gr g4).box
      simp only at b0 b1 b2 b3 b4
      have G4 := Lib.hid g4
      clear g4 CB
      have dd : decide ((-1 : Int) < 0) = true := by decide
      go_wp2_with fail
      have hne : Nonempty (GW W4) := ⟨⟨W4, Ke.refl _ _⟩⟩
      have hself := @gw_self W4
      have hself' : ∀ p : GW W4, ∃ q : GW W4, q.W = p.W := fun p => ⟨p, rfl⟩
      have kb0 := gw_cell b0
      have kb1 := gw_cell b1
      have kb2 := gw_cell b2
      have kb3 := gw_cell b3
      have kb4 := gw_cell b4
      clear b0 b1 b2 b3 b4
      refine wp_region_gw (by kernel_rfl) (by kernel_rfl) ?_
      repeat (go_big_quiet_step (fail))
      refine wpQuiet_nil ?_
      intro _ hw'
      obtain ⟨pp, hw''⟩ := hw'
      subst hw''
      have b0 := kb0 pp
      have b1 := kb1 pp
      have b2 := kb2 pp
      have b3 := kb3 pp
      have b4 := kb4 pp
      have G := Lib.hid (G4.out.trans pp.gr)
      clear kb0 kb1 kb2 kb3 kb4 hself hself' hne G4
      generalize pp.W = W5 at *
      clear pp
      go_wp2_with fail
      refine (FIN.out W5 G.out (fun j h0 hj hp => by have := par_children h0 hp; have := HN.out; omega)).mono ?_
      rintro e w6 ⟨rfl, P⟩
      have PP := Lib.hid P
      clear P b0 b1 b2 b3 b4
      go_wp2
      go_end0
      exact ⟨rfl, PP.out⟩
    · rw [hf] at CB
      have htc : t < c := by rw [← hcp]; exact par_lt hc0
      obtain ⟨l, hl⟩ : ∃ l, ahead k (T2 c) ⟨es, ed, eb, eg, ei⟩ = l := ⟨_, rfl⟩
      have C := Lib.hid (fun W c0 => ahead_any p k (T2 c) ⟨es, ed, eb, eg, ei⟩ W c0)
      have done_ : Hid (l = false → ∀ j, 0 < j → j < n → par j = t → ahead k (T2 j) ⟨es, ed, eb, eg, ei⟩ = false) := fun hlf j h0 hj hp => by
        by_cases e : j = c
        · rw [e, hl, hlf]
        · exact ahead_ntrans k _ _ _ (hfirst j h0 hj hp e) (by rw [hl, hlf])
      have tc := tree_cells A.out.2.mem.tr c hcn
      rw [A.out.2.eq c hct] at tc
      have dn : Hid (∀ W, Gr wr W → l = true → Calls Try.prog 41 #[.pointer (some ⟨p, 0, none⟩), .int .i64 t, VE (T2 c)] W fun x w' => x = .returned (.tuple #[]) ∧ ∃ T4 T3 S3, DnI k T4 n c ∧ Sf w w' base p k (.slice (some ⟨g, 0, none⟩) n cap) u n L w.heap.size ⟨es, ed, eb, eg, ei⟩ T T4 T3 S3 c) := fun W gW hd => by
        have F := A.out.2.gr gW
        refine (set_any W base p k _ u n T1 L S1 F.mem t htn (T2 c) (F.idx.lt c (by omega))).mono ?_
        rintro e W2 ⟨rfl, m, q⟩
        have st := dn_step A.out.1 hc0 hcn hcp hfirst (by rw [F.at_, hl]; exact hd)
        exact ⟨rfl, _, _, _, st, F.step m q htn (by omega) (by omega)⟩
      rw [hl] at C
      have hcz : (c : Int) < (n : Int) := by omega
      have dc : decide ((c : Int) < 0) = false := by simp
      have c0 := A.out.2.mem.c0
      have c1 := A.out.2.mem.c1
      obtain ⟨b0, b1, b2, b3, b4⟩ := A.out.2.box
      generalize T2 c = y at C tc dn
      obtain ⟨ys, yd, yb, yg, yi⟩ := y
      obtain ⟨t0, t1, t2, t3, t4⟩ := tc
      simp only at C t0 t1 t2 t3 t4 dn b0 b1 b2 b3 b4
      clear hl hf hfirst hcp hct
      go_wp2_with fail
      refine CB.out.mono ?_
      rintro e W4 ⟨rfl, g4⟩
      replace c0 := gcell g4 c0
      replace c1 := gcell g4 c1
      replace b0 := gcell g4 b0
      replace b1 := gcell g4 b1
      replace b2 := gcell g4 b2
      replace b3 := gcell g4 b3
      replace b4 := gcell g4 b4
      replace t0 := gcell g4 t0
      replace t1 := gcell g4 t1
      replace t2 := gcell g4 t2
      replace t3 := gcell g4 t3
      replace t4 := gcell g4 t4
      have kc0 := gw_cell c0
      have kc1 := gw_cell c1
      have kb0 := gw_cell b0
      have kb1 := gw_cell b1
      have kb2 := gw_cell b2
      have kb3 := gw_cell b3
      have kb4 := gw_cell b4
      have kt0 := gw_cell t0
      have kt1 := gw_cell t1
      have kt2 := gw_cell t2
      have kt3 := gw_cell t3
      have kt4 := gw_cell t4
      have G4 := Lib.hid g4
      clear c0 c1 b0 b1 b2 b3 b4 t0 t1 t2 t3 t4 g4 CB
      go_wp2_with fail
      have hne : Nonempty (GW W4) := ⟨⟨W4, Ke.refl _ _⟩⟩
      have hself := @gw_self W4
      have hself' : ∀ p : GW W4, ∃ q : GW W4, q.W = p.W := fun p => ⟨p, rfl⟩
      refine wp_region_gw (by kernel_rfl) (by kernel_rfl) ?_
      repeat (go_big_quiet_step (first | (go_at_call 49; exact gw_of (C.out _ (kc0 _)))))
      refine wpQuiet_nil ?_
      intro _ hw'
      obtain ⟨pp, hw''⟩ := hw'
      subst hw''
      have c1 := kc1 pp
      have b0 := kb0 pp
      have b1 := kb1 pp
      have b2 := kb2 pp
      have b3 := kb3 pp
      have b4 := kb4 pp
      have t0 := kt0 pp
      have t1 := kt1 pp
      have t2 := kt2 pp
      have t3 := kt3 pp
      have t4 := kt4 pp
      have G := Lib.hid (G4.out.trans pp.gr)
      clear kc0 kc1 kb0 kb1 kb2 kb3 kb4 kt0 kt1 kt2 kt3 kt4 hself hself' hne G4
      generalize pp.W = W5 at *
      clear pp
      cases l
      · clear t0 t1 t2 t3 t4 dn
        go_wp2_with fail
        refine (FIN.out W5 G.out (by simpa using done_.out)).mono ?_
        rintro e w6 ⟨rfl, P⟩
        have PP := Lib.hid P
        clear P b0 b1 b2 b3 b4
        go_wp2
        go_end0
        exact ⟨rfl, PP.out⟩
      · clear FIN b0 b1 b2 b3 b4
        go_wp2_with fail
        refine (dn.out W5 G.out (by simp)).mono ?_
        rintro e w6 ⟨rfl, T4, T3, S3, P⟩
        have PP := Lib.hid P
        clear P t0 t1 t2 t3 t4 c1
        go_wp2
        go_roundg (n - c)
        case measure => omega
        case rel => exact ⟨c, T4, T3, S3, rfl, Nat.le_refl _, PP.out⟩

theorem settle_any (w : World) (base p : Nat) (k : Int) (v u : Value) (n : Nat) (T : Nat → En) (L : Nat) (S : Nat → Nat) (h : Mem w base p k v u n T L S) (x : Idx T n S L n) (s : Nat) (o : UpI k T n s) :
    Calls Try.prog 42 #[.pointer (some ⟨p, 0, none⟩), .int .i64 s] w fun x w' => x = .returned (.tuple #[]) ∧ DnP w base p k v u n L T w' := by
  have C1 := Lib.hid (up_any w base p k v u n T L S h x s o)
  clear h x o
  go_enter Try.func42, Try.ntmps42
  go_wp2_with fail
  refine C1.out.mono ?_
  rintro e w1 ⟨s2, T2, S2, rfl, m, d, x, sm, q⟩
  have C2 := Lib.hid (down_any w1 base p k v u n T2 L S2 m x s2 d)
  have SM := Lib.hid sm
  have Q := Lib.hid q
  clear m d x sm q C1
  go_wp2_with fail
  refine C2.out.mono ?_
  rintro e w2 ⟨rfl, T3, S3, m, hp, x, sm, q⟩
  have R : Hid (DnP w base p k v u n L T w2) := ⟨T3, S3, m, hp, x, SM.out.trans sm, Q.out.trans q⟩
  clear m hp x sm q C2 SM Q
  go_wp2
  go_end0
  exact ⟨rfl, R.out⟩
end Go.Proofs.Ytkapejgokcpbiaa
