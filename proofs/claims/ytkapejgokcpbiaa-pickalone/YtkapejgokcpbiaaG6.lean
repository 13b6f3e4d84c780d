/- The heap: contract of up. -/
import Derived.Test.YtkapejgokcpbiaaE6
namespace Go.Proofs.Ytkapejgokcpbiaa
open Go.RowKit Go.Lib
set_option linter.unusedVariables false

/-- The five cells of an entry in a box. -/
structure Box (w : World) (B : Nat) (e : En) : Prop where
  b0 : w.cell? ⟨B, 0, none⟩ = some (.int .i64 e.s)
  b1 : w.cell? ⟨B, 1, none⟩ = some (.int .i64 e.r.d)
  b2 : w.cell? ⟨B, 2, none⟩ = some (.int .i64 e.r.b)
  b3 : w.cell? ⟨B, 3, none⟩ = some (.int .i64 e.r.g)
  b4 : w.cell? ⟨B, 4, none⟩ = some (.int .i64 e.r.i)
theorem Box.ke {F : Nat → Prop} {w w' : World} {B : Nat} {e : En} (h : Box w B e) (k : Ke F w w') (hn : ¬ F B) : Box w' B e := by
  have q := k.block B (lt_of_cell h.b0) hn
  exact ⟨(World.cell?_of_block q).trans h.b0, (World.cell?_of_block q).trans h.b1, (World.cell?_of_block q).trans h.b2, (World.cell?_of_block q).trans h.b3, (World.cell?_of_block q).trans h.b4⟩

/-- On the way through the tree: T as if the entry e in the box B stood at s already; T1 and S what memory has. -/
structure Sf (w0 w : World) (base p : Nat) (k : Int) (v u : Value) (n L B : Nat) (e : En) (T0 T T1 : Nat → En) (S : Nat → Nat) (s : Nat) : Prop where
  mem : Mem w base p k v u n T1 L S
  eq : ∀ i, i ≠ s → T1 i = T i
  idx : Idx T n S L s
  at_ : T s = e
  same : Same n T0 T
  ke : Ke (Foot p v u) w0 w
  nb : ¬ Foot p v u B
  box : Box w B e
section
variable {w0 w w' : World} {base p : Nat} {k : Int} {v u : Value} {n L B : Nat} {e : En} {T0 T T1 : Nat → En} {S : Nat → Nat} {s : Nat}
theorem Sf.gr (h : Sf w0 w base p k v u n L B e T0 T T1 S s) (g : Gr w w') : Sf w0 w' base p k v u n L B e T0 T T1 S s :=
  ⟨h.mem.gr g, h.eq, h.idx, h.at_, h.same, h.ke.trans (Ke.of_gr g), h.nb, h.box.ke g (fun x => x)⟩
theorem Sf.step (h : Sf w0 w base p k v u n L B e T0 T T1 S s) {a : Nat} (m : Mem w' base p k v u n (upd T1 s (T a)) L (upd S (T a).s (s + 1))) (q : Ke (Foot p v u) w w') (hs : s < n) (ha : a < n) (hsa : s ≠ a) :
    Sf w0 w' base p k v u n L B e T0 (mv T s a) (upd T1 s (T a)) (upd S (T a).s (s + 1)) a := by
  refine ⟨m, fun i hi => ?_, h.idx.mv hs ha hsa, by rw [mv_a]; exact h.at_, h.same.trans (same_mv hs ha hsa), h.ke.trans q, h.nb, h.box.ke q h.nb⟩
  by_cases e1 : i = s
  · subst e1; rw [upd_same, mv_s hsa]
  · rw [upd_other _ _ e1, mv_o e1 hi]; exact h.eq i e1
/-- The entry laid down. -/
theorem Sf.fin (h : Sf w0 w base p k v u n L B e T0 T T1 S s) (m : Mem w' base p k v u n (upd T1 s e) L (upd S e.s (s + 1))) (hs : s < n) : Mem w' base p k v u n T L (upd S e.s (s + 1)) ∧ Idx T n (upd S e.s (s + 1)) L n := by
  refine ⟨m.congrT (fun i hi => ?_), ?_⟩
  · by_cases e1 : i = s
    · subst e1; rw [upd_same]; exact h.at_
    · rw [upd_other _ _ e1]; exact (h.eq i e1).symm
  · rw [← h.at_]; exact h.idx.fill hs
theorem Sf.start (h : Mem w base p k v u n T L S) (x : Idx T n S L n) (hb : Box w' B (T s)) (q : Gr w w') (nb : ¬ Foot p v u B) : Sf w w' base p k v u n L B (T s) T T T S s :=
  ⟨h.gr q, fun _ _ => rfl, x.open_ s, rfl, Same.refl _ _, Ke.of_gr q, nb, hb⟩
end

/-- What up leaves. -/
def UpP (w : World) (base p : Nat) (k : Int) (v u : Value) (n L : Nat) (T : Nat → En) (x : Ending) (w' : World) : Prop :=
  ∃ s T2 S2, x = .returned (.int .i64 ((s : Nat) : Int)) ∧ Mem w' base p k v u n T2 L S2 ∧ DnI k T2 n s ∧ Idx T2 n S2 L n ∧ Same n T T2 ∧ Ke (Foot p v u) w w'

set_option maxRecDepth 100000 in
set_option maxHeartbeats 4000000 in
theorem up_any (w : World) (base p : Nat) (k : Int) (v u : Value) (n : Nat) (T : Nat → En) (L : Nat) (S : Nat → Nat) (h : Mem w base p k v u n T L S) (x : Idx T n S L n) (s : Nat) (o : UpI k T n s) :
    Calls Try.prog 46 #[.pointer (some ⟨p, 0, none⟩), .int .i64 s] w fun x w' => UpP w base p k v u n L T x w' := by
  have hs := o.lt
  obtain ⟨g, cap, rfl, bg, lg, nc, cm⟩ := h.tr.form (by omega)
  have c1 := h.c1
  have hn6 := h.n6
  have hsz : (s : Int) < (n : Int) := by omega
  obtain ⟨t0, t1, t2, t3, t4⟩ := tree_cells h.tr s hs
  obtain ⟨en, hen⟩ : ∃ en, T s = en := ⟨_, rfl⟩
  have nb : ¬ Foot p (.slice (some ⟨g, 0, none⟩) n cap) u w.heap.size := fun q => by have := (h.lt q).2; omega
  have I0 : Hid (∀ w', Box w' w.heap.size en → Gr w w' → UpI k T n s ∧ Sf w w' base p k (.slice (some ⟨g, 0, none⟩) n cap) u n L w.heap.size en T T T S s) := fun w' hb q => ⟨o, by rw [← hen]; rw [← hen] at hb; exact Sf.start h x hb q nb⟩
  rw [hen] at t0 t1 t2 t3 t4
  clear h x o hen nb
  obtain ⟨es, ed, eb, eg, ei⟩ := en
  simp only at t0 t1 t2 t3 t4
  go_enter Try.func46, Try.ntmps46
  go_wp2_with fail
  go_loopg [1] s (fun kx s1 wr => ∃ (t : Nat) (T2 T1 : Nat → En) (S1 : Nat → Nat), s1 = .int .i64 t ∧ t ≤ kx ∧ Aside (UpI k T2 n t ∧ Sf w wr base p k (.slice (some ⟨g, 0, none⟩) n cap) u n L w.heap.size ⟨es, ed, eb, eg, ei⟩ T T2 T1 S1 t))
  case atStart =>
    exact ⟨s, T, T, S, rfl, Nat.le_refl _, I0.out _ ⟨by simp [go_sem], by simp [go_sem], by simp [go_sem], by simp [go_sem], by simp [go_sem]⟩ ((Ke.refl _ _).alloc _)⟩
  case round =>
    clear I0 t0 t1 t2 t3 t4 c1 hsz hs
    obtain ⟨t, T2, T1, S1, rfl, hkx, A⟩ := hrel
    have htn : t < n := A.out.1.lt
    have fin : ∀ W, Gr wr W → (t = 0 ∨ ahead k ⟨es, ed, eb, eg, ei⟩ (T2 (par t)) = false) → Calls Try.prog 41 #[.pointer (some ⟨p, 0, none⟩), .int .i64 t, VE ⟨es, ed, eb, eg, ei⟩] W fun x w' => x = .returned (.tuple #[]) ∧ UpP w base p k (.slice (some ⟨g, 0, none⟩) n cap) u n L T (.returned (.int .i64 (t : Int))) w' := fun W gW hd => by
      have F := A.out.2.gr gW
      have he : (⟨es, ed, eb, eg, ei⟩ : En).s < L := by have := F.idx.lt t htn; rw [F.at_] at this; exact this
      refine (set_any W base p k _ u n T1 L S1 F.mem t htn ⟨es, ed, eb, eg, ei⟩ he).mono ?_
      rintro e W2 ⟨rfl, m, q⟩
      obtain ⟨m2, x2⟩ := F.fin m htn
      exact ⟨rfl, t, T2, _, rfl, m2, up_done A.out.1 (by rw [F.at_]; exact hd), x2, F.same, F.ke.trans q⟩
    have FIN := Lib.hid fin
    clear fin
    have hb := A.out.2.box
    obtain ⟨b0, b1, b2, b3, b4⟩ := hb
    simp only at b0 b1 b2 b3 b4
    by_cases ht : 0 < t
    · have htz : 0 < (t : Int) := by omega
      obtain ⟨a, ha⟩ : ∃ a, par t = a := ⟨_, rfl⟩
      have hat : a < t := by rw [← ha]; exact par_lt ht
      have d1 : ((t : Int) - 1) / 2 = (a : Int) := by unfold par at ha; omega
      have d2 : ((t : Int) - 1).tdiv 2 = (a : Int) := by rw [Int.tdiv_eq_ediv_of_nonneg (by omega)]; exact d1
      have haz : (a : Int) < (n : Int) := by omega
      obtain ⟨l, hl⟩ : ∃ l, ahead k ⟨es, ed, eb, eg, ei⟩ (T2 a) = l := ⟨_, rfl⟩
      have C := Lib.hid (fun W c => ahead_any p k ⟨es, ed, eb, eg, ei⟩ (T2 a) W c)
      have tc := tree_cells A.out.2.mem.tr a (by omega)
      rw [A.out.2.eq a (by omega)] at tc
      have c0 := A.out.2.mem.c0
      have c1 := A.out.2.mem.c1
      have up : Hid (∀ W, Gr wr W → l = true → Calls Try.prog 41 #[.pointer (some ⟨p, 0, none⟩), .int .i64 t, VE (T2 a)] W fun x w' => x = .returned (.tuple #[]) ∧ ∃ T4 T3 S3, UpI k T4 n a ∧ Sf w w' base p k (.slice (some ⟨g, 0, none⟩) n cap) u n L w.heap.size ⟨es, ed, eb, eg, ei⟩ T T4 T3 S3 a) := fun W gW hd => by
        have F := A.out.2.gr gW
        refine (set_any W base p k _ u n T1 L S1 F.mem t htn (T2 a) (F.idx.lt a (by omega))).mono ?_
        rintro e W2 ⟨rfl, m, q⟩
        have st := up_step A.out.1 ht (by rw [ha, F.at_, hl]; exact hd)
        rw [ha] at st
        exact ⟨rfl, _, _, _, st, F.step m q htn (by omega) (by omega)⟩
      have HL := Lib.hid hl
      have HA := Lib.hid ha
      rw [hl] at C
      generalize T2 a = y at C tc up
      obtain ⟨ys, yd, yb, yg, yi⟩ := y
      obtain ⟨t0, t1, t2, t3, t4⟩ := tc
      simp only at C t0 t1 t2 t3 t4 up
      clear hl ha
      have kc0 := gw_cell c0
      have kc1 := gw_cell c1
      have kb0 := gw_cell b0
      have kb1 := gw_cell b1
      have kb2 := gw_cell b2
      have kb3 := gw_cell b3
      have kb4 := gw_cell b4
      have kt0 := gw_cell t0
      have kt1 := gw_cell t1
      have kt2 := gw_cell t2
      have kt3 := gw_cell t3
      have kt4 := gw_cell t4
      clear c0 c1 b0 b1 b2 b3 b4 t0 t1 t2 t3 t4
      go_wp2_with fail
      have hne : Nonempty (GW wr) := ⟨⟨wr, Ke.refl _ _⟩⟩
      have hself := @gw_self wr
      have hself' : ∀ p : GW wr, ∃ q : GW wr, q.W = p.W := fun p => ⟨p, rfl⟩
      refine wp_region_gw (by kernel_rfl) (by kernel_rfl) ?_
      repeat (go_big_quiet_step (first | (go_at_call 49; exact gw_of (C.out _ (kc0 _)))))
      refine wpQuiet_nil ?_
      intro _ hw'
      obtain ⟨pp, hw''⟩ := hw'
      subst hw''
      have c1 := kc1 pp
      have b0 := kb0 pp
      have b1 := kb1 pp
      have b2 := kb2 pp
      have b3 := kb3 pp
      have b4 := kb4 pp
      have t0 := kt0 pp
      have t1 := kt1 pp
      have t2 := kt2 pp
      have t3 := kt3 pp
      have t4 := kt4 pp
      clear kc0 kc1 kb0 kb1 kb2 kb3 kb4 kt0 kt1 kt2 kt3 kt4 hself hself' hne
      have G := Lib.hid pp.gr
      generalize pp.W = W5 at *
      clear pp
      cases l
      · clear t0 t1 t2 t3 t4 up
        go_wp2_with fail
        refine (FIN.out W5 G.out (.inr (by rw [HA.out]; exact HL.out))).mono ?_
        rintro e w6 ⟨rfl, P⟩
        have PP := Lib.hid P
        clear P b0 b1 b2 b3 b4
        go_wp2
        go_ret
        exact PP.out
      · clear FIN b0 b1 b2 b3 b4
        go_wp2_with fail
        refine (up.out W5 G.out (by simp)).mono ?_
        rintro e w6 ⟨rfl, T4, T3, S3, P⟩
        have PP := Lib.hid P
        clear P t0 t1 t2 t3 t4 c1
        go_wp2
        go_roundg a
        case measure => omega
        case rel => exact ⟨a, T4, T3, S3, rfl, Nat.le_refl _, PP.out⟩
    · have htz : ¬ 0 < (t : Int) := by omega
      obtain rfl : t = 0 := by omega
      go_wp2_with fail
      refine (FIN.out wr (Ke.refl _ _) (.inl (by simp))).mono ?_
      rintro e w6 ⟨rfl, P⟩
      have PP := Lib.hid P
      clear P b0 b1 b2 b3 b4
      go_wp2
      go_ret
      exact PP.out
end Go.Proofs.Ytkapejgokcpbiaa
