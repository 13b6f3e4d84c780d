/- The heap: contract of up. The heap: contracts of down, settle. append(s, make([]int32, k)...), append(s, x): rows of the call's own, where they lie afterwards. The heap: contracts of find, Len, Top, New. -/
import Derived.Test.YtlpjojegdnconaaDoorE6
import Derived.Lib.AppendZerosOnto
namespace Go.Proofs.YtlpjojegdnconaaDoor.Ca
open Go.RowKit Go.Lib
set_option linter.unusedVariables false

/-- The five cells of an entry in a box. -/
structure Box (w : World) (B : Nat) (e : En) : Prop where
  b0 : w.cell? ⟨B, 0, none⟩ = some (.int .i64 e.s)
  b1 : w.cell? ⟨B, 1, none⟩ = some (.int .i64 e.r.d)
  b2 : w.cell? ⟨B, 2, none⟩ = some (.int .i64 e.r.b)
  b3 : w.cell? ⟨B, 3, none⟩ = some (.int .i64 e.r.g)
  b4 : w.cell? ⟨B, 4, none⟩ = some (.int .i64 e.r.i)
theorem Box.ke {F : Nat → Prop} {w w' : World} {B : Nat} {e : En} (h : Box w B e) (k : Ke F w w') (hn : ¬ F B) : Box w' B e := by
  have q := k.block B (lt_of_cell h.b0) hn
  exact ⟨(World.cell?_of_block q).trans h.b0, (World.cell?_of_block q).trans h.b1, (World.cell?_of_block q).trans h.b2, (World.cell?_of_block q).trans h.b3, (World.cell?_of_block q).trans h.b4⟩

/-- On the way through the tree: T as if the entry e in the box B stood at s already; T1 and S what memory has. -/
structure Sf (w0 w : World) (base p : Nat) (k : Int) (v u : Value) (n L B : Nat) (e : En) (T0 T T1 : Nat → En) (S : Nat → Nat) (s : Nat) : Prop where
  mem : Mem w base p k v u n T1 L S
  eq : ∀ i, i ≠ s → T1 i = T i
  idx : Idx T n S L s
  at_ : T s = e
  same : Same n T0 T
  ke : Ke (Foot p v u) w0 w
  nb : ¬ Foot p v u B
  box : Box w B e
section
variable {w0 w w' : World} {base p : Nat} {k : Int} {v u : Value} {n L B : Nat} {e : En} {T0 T T1 : Nat → En} {S : Nat → Nat} {s : Nat}
theorem Sf.gr (h : Sf w0 w base p k v u n L B e T0 T T1 S s) (g : Gr w w') : Sf w0 w' base p k v u n L B e T0 T T1 S s :=
  ⟨h.mem.gr g, h.eq, h.idx, h.at_, h.same, h.ke.trans (Ke.of_gr g), h.nb, h.box.ke g (fun x => x)⟩
theorem Sf.step (h : Sf w0 w base p k v u n L B e T0 T T1 S s) {a : Nat} (m : Mem w' base p k v u n (upd T1 s (T a)) L (upd S (T a).s (s + 1))) (q : Ke (Foot p v u) w w') (hs : s < n) (ha : a < n) (hsa : s ≠ a) :
    Sf w0 w' base p k v u n L B e T0 (mv T s a) (upd T1 s (T a)) (upd S (T a).s (s + 1)) a := by
  refine ⟨m, fun i hi => ?_, h.idx.mv hs ha hsa, by rw [mv_a]; exact h.at_, h.same.trans (same_mv hs ha hsa), h.ke.trans q, h.nb, h.box.ke q h.nb⟩
  by_cases e1 : i = s
  · subst e1; rw [upd_same, mv_s hsa]
  · rw [upd_other _ _ e1, mv_o e1 hi]; exact h.eq i e1
/-- The entry laid down. -/
theorem Sf.fin (h : Sf w0 w base p k v u n L B e T0 T T1 S s) (m : Mem w' base p k v u n (upd T1 s e) L (upd S e.s (s + 1))) (hs : s < n) : Mem w' base p k v u n T L (upd S e.s (s + 1)) ∧ Idx T n (upd S e.s (s + 1)) L n := by
  refine ⟨m.congrT (fun i hi => ?_), ?_⟩
  · by_cases e1 : i = s
    · subst e1; rw [upd_same]; exact h.at_
    · rw [upd_other _ _ e1]; exact (h.eq i e1).symm
  · rw [← h.at_]; exact h.idx.fill hs
theorem Sf.start (h : Mem w base p k v u n T L S) (x : Idx T n S L n) (hb : Box w' B (T s)) (q : Gr w w') (nb : ¬ Foot p v u B) : Sf w w' base p k v u n L B (T s) T T T S s :=
  ⟨h.gr q, fun _ _ => rfl, x.open_ s, rfl, Same.refl _ _, Ke.of_gr q, nb, hb⟩
end

/-- What up leaves. -/
def UpP (w : World) (base p : Nat) (k : Int) (v u : Value) (n L : Nat) (T : Nat → En) (x : Ending) (w' : World) : Prop :=
  ∃ s T2 S2, x = .returned (.int .i64 ((s : Nat) : Int)) ∧ Mem w' base p k v u n T2 L S2 ∧ DnI k T2 n s ∧ Idx T2 n S2 L n ∧ Same n T T2 ∧ Ke (Foot p v u) w w'

set_option maxRecDepth 100000 in
set_option maxHeartbeats 4000000 in
theorem up_any (w : World) (base p : Nat) (k : Int) (v u : Value) (n : Nat) (T : Nat → En) (L : Nat) (S : Nat → Nat) (h : Mem w base p k v u n T L S) (x : Idx T n S L n) (s : Nat) (o : UpI k T n s) :
    Calls Tryd.prog 96 #[.pointer (some ⟨p, 0, none⟩), .int .i64 s] w fun x w' => UpP w base p k v u n L T x w' := by
  have hs := o.lt
  obtain ⟨g, cap, rfl, bg, lg, nc, cm⟩ := h.tr.form (by omega)
  have c1 := h.c1
  have hn6 := h.n6
  have hsz : (s : Int) < (n : Int) := by omega
  obtain ⟨t0, t1, t2, t3, t4⟩ := tree_cells h.tr s hs
  obtain ⟨en, hen⟩ : ∃ en, T s = en := ⟨_, rfl⟩
  have nb : ¬ Foot p (.slice (some ⟨g, 0, none⟩) n cap) u w.heap.size := fun q => by have := (h.lt q).2; omega
  have I0 : Hid (∀ w', Box w' w.heap.size en → Gr w w' → UpI k T n s ∧ Sf w w' base p k (.slice (some ⟨g, 0, none⟩) n cap) u n L w.heap.size en T T T S s) := fun w' hb q => ⟨o, by rw [← hen]; rw [← hen] at hb; exact Sf.start h x hb q nb⟩
  rw [hen] at t0 t1 t2 t3 t4
  clear h x o hen nb
  obtain ⟨es, ed, eb, eg, ei⟩ := en
  simp only at t0 t1 t2 t3 t4
  go_enter Tryd.func96, Tryd.ntmps96
  go_wp2_with fail
  go_loopg [1] s (fun kx s1 wr => ∃ (t : Nat) (T2 T1 : Nat → En) (S1 : Nat → Nat), s1 = .int .i64 t ∧ t ≤ kx ∧ Aside (UpI k T2 n t ∧ Sf w wr base p k (.slice (some ⟨g, 0, none⟩) n cap) u n L w.heap.size ⟨es, ed, eb, eg, ei⟩ T T2 T1 S1 t))
  case atStart =>
    exact ⟨s, T, T, S, rfl, Nat.le_refl _, I0.out _ ⟨by simp [go_sem], by simp [go_sem], by simp [go_sem], by simp [go_sem], by simp [go_sem]⟩ ((Ke.refl _ _).alloc _)⟩
  case round =>
    clear I0 t0 t1 t2 t3 t4 c1 hsz hs
    obtain ⟨t, T2, T1, S1, rfl, hkx, A⟩ := hrel
    have htn : t < n := A.out.1.lt
    have fin : ∀ W, Gr wr W → (t = 0 ∨ ahead k ⟨es, ed, eb, eg, ei⟩ (T2 (par t)) = false) → Calls Tryd.prog 83 #[.pointer (some ⟨p, 0, none⟩), .int .i64 t, VE ⟨es, ed, eb, eg, ei⟩] W fun x w' => x = .returned (.tuple #[]) ∧ UpP w base p k (.slice (some ⟨g, 0, none⟩) n cap) u n L T (.returned (.int .i64 (t : Int))) w' := fun W gW hd => by
      have F := A.out.2.gr gW
      have he : (⟨es, ed, eb, eg, ei⟩ : En).s < L := by have := F.idx.lt t htn; rw [F.at_] at this; exact this
      refine (set_any W base p k _ u n T1 L S1 F.mem t htn ⟨es, ed, eb, eg, ei⟩ he).mono ?_
      rintro e W2 ⟨rfl, m, q⟩
      obtain ⟨m2, x2⟩ := F.fin m htn
      exact ⟨rfl, t, T2, _, rfl, m2, up_done A.out.1 (by rw [F.at_]; exact hd), x2, F.same, F.ke.trans q⟩
    have FIN := Lib.hid fin
    clear fin
    have hb := A.out.2.box
    obtain ⟨b0, b1, b2, b3, b4⟩ := hb
    simp only at b0 b1 b2 b3 b4
    by_cases ht : 0 < t
    · have htz : 0 < (t : Int) := by omega
      obtain ⟨a, ha⟩ : ∃ a, par t = a := ⟨_, rfl⟩
      have hat : a < t := by rw [← ha]; exact par_lt ht
      have d1 : ((t : Int) - 1) / 2 = (a : Int) := by unfold par at ha; omega
      have d2 : ((t : Int) - 1).tdiv 2 = (a : Int) := by rw [Int.tdiv_eq_ediv_of_nonneg (by omega)]; exact d1
      have haz : (a : Int) < (n : Int) := by omega
      obtain ⟨l, hl⟩ : ∃ l, ahead k ⟨es, ed, eb, eg, ei⟩ (T2 a) = l := ⟨_, rfl⟩
      have C := Lib.hid (fun W c => ahead_any p k ⟨es, ed, eb, eg, ei⟩ (T2 a) W c)
      have tc := tree_cells A.out.2.mem.tr a (by omega)
      rw [A.out.2.eq a (by omega)] at tc
      have c0 := A.out.2.mem.c0
      have c1 := A.out.2.mem.c1
      have up : Hid (∀ W, Gr wr W → l = true → Calls Tryd.prog 83 #[.pointer (some ⟨p, 0, none⟩), .int .i64 t, VE (T2 a)] W fun x w' => x = .returned (.tuple #[]) ∧ ∃ T4 T3 S3, UpI k T4 n a ∧ Sf w w' base p k (.slice (some ⟨g, 0, none⟩) n cap) u n L w.heap.size ⟨es, ed, eb, eg, ei⟩ T T4 T3 S3 a) := fun W gW hd => by
        have F := A.out.2.gr gW
        refine (set_any W base p k _ u n T1 L S1 F.mem t htn (T2 a) (F.idx.lt a (by omega))).mono ?_
        rintro e W2 ⟨rfl, m, q⟩
        have st := up_step A.out.1 ht (by rw [ha, F.at_, hl]; exact hd)
        rw [ha] at st
        exact ⟨rfl, _, _, _, st, F.step m q htn (by omega) (by omega)⟩
      have HL := Lib.hid hl
      have HA := Lib.hid ha
      rw [hl] at C
      generalize T2 a = y at C tc up
      obtain ⟨ys, yd, yb, yg, yi⟩ := y
      obtain ⟨t0, t1, t2, t3, t4⟩ := tc
      simp only at C t0 t1 t2 t3 t4 up
      clear hl ha
      have kc0 := gw_cell c0
      have kc1 := gw_cell c1
      have kb0 := gw_cell b0
      have kb1 := gw_cell b1
      have kb2 := gw_cell b2
      have kb3 := gw_cell b3
      have kb4 := gw_cell b4
      have kt0 := gw_cell t0
      have kt1 := gw_cell t1
      have kt2 := gw_cell t2
      have kt3 := gw_cell t3
      have kt4 := gw_cell t4
      clear c0 c1 b0 b1 b2 b3 b4 t0 t1 t2 t3 t4
      go_wp2_with fail
      have hne : Nonempty (GW wr) := ⟨⟨wr, Ke.refl _ _⟩⟩
      have hself := @gw_self wr
      have hself' : ∀ p : GW wr, ∃ q : GW wr, q.W = p.W := fun p => ⟨p, rfl⟩
      refine wp_region_gw (by kernel_rfl) (by kernel_rfl) ?_
      repeat (go_big_quiet_step (first | (go_at_call 99; exact gw_of (C.out _ (kc0 _)))))
      refine wpQuiet_nil ?_
      intro _ hw'
      obtain ⟨pp, hw''⟩ := hw'
      subst hw''
      have c1 := kc1 pp
      have b0 := kb0 pp
      have b1 := kb1 pp
      have b2 := kb2 pp
      have b3 := kb3 pp
      have b4 := kb4 pp
      have t0 := kt0 pp
      have t1 := kt1 pp
      have t2 := kt2 pp
      have t3 := kt3 pp
      have t4 := kt4 pp
      clear kc0 kc1 kb0 kb1 kb2 kb3 kb4 kt0 kt1 kt2 kt3 kt4 hself hself' hne
      have G := Lib.hid pp.gr
      generalize pp.W = W5 at *
      clear pp
      cases l
      · clear t0 t1 t2 t3 t4 up
        go_wp2_with fail
        refine (FIN.out W5 G.out (.inr (by rw [HA.out]; exact HL.out))).mono ?_
        rintro e w6 ⟨rfl, P⟩
        have PP := Lib.hid P
        clear P b0 b1 b2 b3 b4
        go_wp2
        go_ret
        exact PP.out
      · clear FIN b0 b1 b2 b3 b4
        go_wp2_with fail
        refine (up.out W5 G.out (by simp)).mono ?_
        rintro e w6 ⟨rfl, T4, T3, S3, P⟩
        have PP := Lib.hid P
        clear P t0 t1 t2 t3 t4 c1
        go_wp2
        go_roundg a
        case measure => omega
        case rel => exact ⟨a, T4, T3, S3, rfl, Nat.le_refl _, PP.out⟩
    · have htz : ¬ 0 < (t : Int) := by omega
      obtain rfl : t = 0 := by omega
      go_wp2_with fail
      refine (FIN.out wr (Ke.refl _ _) (.inl (by simp))).mono ?_
      rintro e w6 ⟨rfl, P⟩
      have PP := Lib.hid P
      clear P b0 b1 b2 b3 b4
      go_wp2
      go_ret
      exact PP.out
end Go.Proofs.YtlpjojegdnconaaDoor.Ca

namespace Go.Proofs.YtlpjojegdnconaaDoor.Ca
open Go.RowKit Go.Lib
set_option linter.unusedVariables false

theorem fb_congr {k : Int} {T T1 : Nat → En} {n s : Nat} (h : ∀ i, i ≠ s → T1 i = T i) : fb k T1 n s = fb k T n s := by
  unfold fb
  rw [h (2 * s + 1) (by omega), h (2 * s + 2) (by omega)]

/-- What down, settle leave. -/
def DnP (w : World) (base p : Nat) (k : Int) (v u : Value) (n L : Nat) (T : Nat → En) (w' : World) : Prop :=
  ∃ T2 S2, Mem w' base p k v u n T2 L S2 ∧ Hp k T2 n ∧ Idx T2 n S2 L n ∧ Same n T T2 ∧ Ke (Foot p v u) w w'

set_option maxRecDepth 100000 in
set_option maxHeartbeats 4000000 in
theorem down_any (w : World) (base p : Nat) (k : Int) (v u : Value) (n : Nat) (T : Nat → En) (L : Nat) (S : Nat → Nat) (h : Mem w base p k v u n T L S) (x : Idx T n S L n) (s : Nat) (o : DnI k T n s) :
    Calls Tryd.prog 95 #[.pointer (some ⟨p, 0, none⟩), .int .i64 s] w fun x w' => x = .returned (.tuple #[]) ∧ DnP w base p k v u n L T w' := by
  have hs := o.lt
  obtain ⟨g, cap, rfl, bg, lg, nc, cm⟩ := h.tr.form (by omega)
  have c1 := h.c1
  have hn6 := h.n6
  have hsz : (s : Int) < (n : Int) := by omega
  obtain ⟨t0, t1, t2, t3, t4⟩ := tree_cells h.tr s hs
  obtain ⟨en, hen⟩ : ∃ en, T s = en := ⟨_, rfl⟩
  have nb : ¬ Foot p (.slice (some ⟨g, 0, none⟩) n cap) u w.heap.size := fun q => by have := (h.lt q).2; omega
  have I0 : Hid (∀ w', Box w' w.heap.size en → Gr w w' → DnI k T n s ∧ Sf w w' base p k (.slice (some ⟨g, 0, none⟩) n cap) u n L w.heap.size en T T T S s) := fun w' hb q => ⟨o, by rw [← hen]; rw [← hen] at hb; exact Sf.start h x hb q nb⟩
  rw [hen] at t0 t1 t2 t3 t4
  clear h x o hen nb
  obtain ⟨es, ed, eb, eg, ei⟩ := en
  simp only at t0 t1 t2 t3 t4
  go_enter Tryd.func95, Tryd.ntmps95
  go_wp2_with fail
  go_loopg [1] (n - s) (fun kx s1 wr => ∃ (t : Nat) (T2 T1 : Nat → En) (S1 : Nat → Nat), s1 = .int .i64 t ∧ n - t ≤ kx ∧ Aside (DnI k T2 n t ∧ Sf w wr base p k (.slice (some ⟨g, 0, none⟩) n cap) u n L w.heap.size ⟨es, ed, eb, eg, ei⟩ T T2 T1 S1 t))
  case atStart =>
    exact ⟨s, T, T, S, rfl, Nat.le_refl _, I0.out _ ⟨by simp [go_sem], by simp [go_sem], by simp [go_sem], by simp [go_sem], by simp [go_sem]⟩ ((Ke.refl _ _).alloc _)⟩
  case round =>
    clear I0 t0 t1 t2 t3 t4 c1 hsz hs
    obtain ⟨t, T2, T1, S1, rfl, hkx, A⟩ := hrel
    have htn : t < n := A.out.1.lt
    have fin : ∀ W, Gr wr W → (∀ j, 0 < j → j < n → par j = t → ahead k (T2 j) ⟨es, ed, eb, eg, ei⟩ = false) → Calls Tryd.prog 83 #[.pointer (some ⟨p, 0, none⟩), .int .i64 t, VE ⟨es, ed, eb, eg, ei⟩] W fun x w' => x = .returned (.tuple #[]) ∧ DnP w base p k (.slice (some ⟨g, 0, none⟩) n cap) u n L T w' := fun W gW hd => by
      have F := A.out.2.gr gW
      have he : (⟨es, ed, eb, eg, ei⟩ : En).s < L := by have := F.idx.lt t htn; rw [F.at_] at this; exact this
      refine (set_any W base p k _ u n T1 L S1 F.mem t htn ⟨es, ed, eb, eg, ei⟩ he).mono ?_
      rintro e W2 ⟨rfl, m, q⟩
      obtain ⟨m2, x2⟩ := F.fin m htn
      exact ⟨rfl, T2, _, m2, dn_done A.out.1 (by rw [F.at_]; exact hd), x2, F.same, F.ke.trans q⟩
    have FIN := Lib.hid fin
    clear fin
    have CB := Lib.hid (fb_any wr base p k _ u n T1 L S1 A.out.2.mem t htn)
    rw [fb_congr A.out.2.eq] at CB
    rcases fb_spec k T2 n t with ⟨hf, hn⟩ | ⟨c, hf, hc0, hcn, hcp, hct, hfirst⟩
    · rw [hf] at CB
      have HN := Lib.hid hn
      clear hf hn
      go_wp2_with fail
      refine CB.out.mono ?_
      rintro e W4 ⟨rfl, g4⟩
      obtain ⟨b0, b1, b2, b3, b4⟩ := (A.out.2.gr g4).box
      simp only at b0 b1 b2 b3 b4
      have G4 := Lib.hid g4
      clear g4 CB
      have dd : decide ((-1 : Int) < 0) = true := by decide
      go_wp2_with fail
      have hne : Nonempty (GW W4) := ⟨⟨W4, Ke.refl _ _⟩⟩
      have hself := @gw_self W4
      have hself' : ∀ p : GW W4, ∃ q : GW W4, q.W = p.W := fun p => ⟨p, rfl⟩
      have kb0 := gw_cell b0
      have kb1 := gw_cell b1
      have kb2 := gw_cell b2
      have kb3 := gw_cell b3
      have kb4 := gw_cell b4
      clear b0 b1 b2 b3 b4
      refine wp_region_gw (by kernel_rfl) (by kernel_rfl) ?_
      repeat (go_big_quiet_step (fail))
      refine wpQuiet_nil ?_
      intro _ hw'
      obtain ⟨pp, hw''⟩ := hw'
      subst hw''
      have b0 := kb0 pp
      have b1 := kb1 pp
      have b2 := kb2 pp
      have b3 := kb3 pp
      have b4 := kb4 pp
      have G := Lib.hid (G4.out.trans pp.gr)
      clear kb0 kb1 kb2 kb3 kb4 hself hself' hne G4
      generalize pp.W = W5 at *
      clear pp
      go_wp2_with fail
      refine (FIN.out W5 G.out (fun j h0 hj hp => by have := par_children h0 hp; have := HN.out; omega)).mono ?_
      rintro e w6 ⟨rfl, P⟩
      have PP := Lib.hid P
      clear P b0 b1 b2 b3 b4
      go_wp2
      go_end0
      exact ⟨rfl, PP.out⟩
    · rw [hf] at CB
      have htc : t < c := by rw [← hcp]; exact par_lt hc0
      obtain ⟨l, hl⟩ : ∃ l, ahead k (T2 c) ⟨es, ed, eb, eg, ei⟩ = l := ⟨_, rfl⟩
      have C := Lib.hid (fun W c0 => ahead_any p k (T2 c) ⟨es, ed, eb, eg, ei⟩ W c0)
      have done_ : Hid (l = false → ∀ j, 0 < j → j < n → par j = t → ahead k (T2 j) ⟨es, ed, eb, eg, ei⟩ = false) := fun hlf j h0 hj hp => by
        by_cases e : j = c
        · rw [e, hl, hlf]
        · exact ahead_ntrans k _ _ _ (hfirst j h0 hj hp e) (by rw [hl, hlf])
      have tc := tree_cells A.out.2.mem.tr c hcn
      rw [A.out.2.eq c hct] at tc
      have dn : Hid (∀ W, Gr wr W → l = true → Calls Tryd.prog 83 #[.pointer (some ⟨p, 0, none⟩), .int .i64 t, VE (T2 c)] W fun x w' => x = .returned (.tuple #[]) ∧ ∃ T4 T3 S3, DnI k T4 n c ∧ Sf w w' base p k (.slice (some ⟨g, 0, none⟩) n cap) u n L w.heap.size ⟨es, ed, eb, eg, ei⟩ T T4 T3 S3 c) := fun W gW hd => by
        have F := A.out.2.gr gW
        refine (set_any W base p k _ u n T1 L S1 F.mem t htn (T2 c) (F.idx.lt c (by omega))).mono ?_
        rintro e W2 ⟨rfl, m, q⟩
        have st := dn_step A.out.1 hc0 hcn hcp hfirst (by rw [F.at_, hl]; exact hd)
        exact ⟨rfl, _, _, _, st, F.step m q htn (by omega) (by omega)⟩
      rw [hl] at C
      have hcz : (c : Int) < (n : Int) := by omega
      have dc : decide ((c : Int) < 0) = false := by simp
      have c0 := A.out.2.mem.c0
      have c1 := A.out.2.mem.c1
      obtain ⟨b0, b1, b2, b3, b4⟩ := A.out.2.box
      generalize T2 c = y at C tc dn
      obtain ⟨ys, yd, yb, yg, yi⟩ := y
      obtain ⟨t0, t1, t2, t3, t4⟩ := tc
      simp only at C t0 t1 t2 t3 t4 dn b0 b1 b2 b3 b4
      clear hl hf hfirst hcp hct
      go_wp2_with fail
      refine CB.out.mono ?_
      rintro e W4 ⟨rfl, g4⟩
      replace c0 := gcell g4 c0
      replace c1 := gcell g4 c1
      replace b0 := gcell g4 b0
      replace b1 := gcell g4 b1
      replace b2 := gcell g4 b2
      replace b3 := gcell g4 b3
      replace b4 := gcell g4 b4
      replace t0 := gcell g4 t0
      replace t1 := gcell g4 t1
      replace t2 := gcell g4 t2
      replace t3 := gcell g4 t3
      replace t4 := gcell g4 t4
      have kc0 := gw_cell c0
      have kc1 := gw_cell c1
      have kb0 := gw_cell b0
      have kb1 := gw_cell b1
      have kb2 := gw_cell b2
      have kb3 := gw_cell b3
      have kb4 := gw_cell b4
      have kt0 := gw_cell t0
      have kt1 := gw_cell t1
      have kt2 := gw_cell t2
      have kt3 := gw_cell t3
      have kt4 := gw_cell t4
      have G4 := Lib.hid g4
      clear c0 c1 b0 b1 b2 b3 b4 t0 t1 t2 t3 t4 g4 CB
      go_wp2_with fail
      have hne : Nonempty (GW W4) := ⟨⟨W4, Ke.refl _ _⟩⟩
      have hself := @gw_self W4
      have hself' : ∀ p : GW W4, ∃ q : GW W4, q.W = p.W := fun p => ⟨p, rfl⟩
      refine wp_region_gw (by kernel_rfl) (by kernel_rfl) ?_
      repeat (go_big_quiet_step (first | (go_at_call 99; exact gw_of (C.out _ (kc0 _)))))
      refine wpQuiet_nil ?_
      intro _ hw'
      obtain ⟨pp, hw''⟩ := hw'
      subst hw''
      have c1 := kc1 pp
      have b0 := kb0 pp
      have b1 := kb1 pp
      have b2 := kb2 pp
      have b3 := kb3 pp
      have b4 := kb4 pp
      have t0 := kt0 pp
      have t1 := kt1 pp
      have t2 := kt2 pp
      have t3 := kt3 pp
      have t4 := kt4 pp
      have G := Lib.hid (G4.out.trans pp.gr)
      clear kc0 kc1 kb0 kb1 kb2 kb3 kb4 kt0 kt1 kt2 kt3 kt4 hself hself' hne G4
      generalize pp.W = W5 at *
      clear pp
      cases l
      · clear t0 t1 t2 t3 t4 dn
        go_wp2_with fail
        refine (FIN.out W5 G.out (by simpa using done_.out)).mono ?_
        rintro e w6 ⟨rfl, P⟩
        have PP := Lib.hid P
        clear P b0 b1 b2 b3 b4
        go_wp2
        go_end0
        exact ⟨rfl, PP.out⟩
      · clear FIN b0 b1 b2 b3 b4
        go_wp2_with fail
        refine (dn.out W5 G.out (by simp)).mono ?_
        rintro e w6 ⟨rfl, T4, T3, S3, P⟩
        have PP := Lib.hid P
        clear P t0 t1 t2 t3 t4 c1
        go_wp2
        go_roundg (n - c)
        case measure => omega
        case rel => exact ⟨c, T4, T3, S3, rfl, Nat.le_refl _, PP.out⟩

theorem settle_any (w : World) (base p : Nat) (k : Int) (v u : Value) (n : Nat) (T : Nat → En) (L : Nat) (S : Nat → Nat) (h : Mem w base p k v u n T L S) (x : Idx T n S L n) (s : Nat) (o : UpI k T n s) :
    Calls Tryd.prog 84 #[.pointer (some ⟨p, 0, none⟩), .int .i64 s] w fun x w' => x = .returned (.tuple #[]) ∧ DnP w base p k v u n L T w' := by
  have C1 := Lib.hid (up_any w base p k v u n T L S h x s o)
  clear h x o
  go_enter Tryd.func84, Tryd.ntmps84
  go_wp2_with fail
  refine C1.out.mono ?_
  rintro e w1 ⟨s2, T2, S2, rfl, m, d, x, sm, q⟩
  have C2 := Lib.hid (down_any w1 base p k v u n T2 L S2 m x s2 d)
  have SM := Lib.hid sm
  have Q := Lib.hid q
  clear m d x sm q C1
  go_wp2_with fail
  refine C2.out.mono ?_
  rintro e w2 ⟨rfl, T3, S3, m, hp, x, sm, q⟩
  have R : Hid (DnP w base p k v u n L T w2) := ⟨T3, S3, m, hp, x, SM.out.trans sm, Q.out.trans q⟩
  clear m hp x sm q C2 SM Q
  go_wp2
  go_end0
  exact ⟨rfl, R.out⟩
end Go.Proofs.YtlpjojegdnconaaDoor.Ca

namespace Go.Proofs.YtlpjojegdnconaaDoor.Ca
open Go.RowKit Go.Lib
set_option linter.unusedVariables false

theorem zeroCells_one (z : Value) (k : Nat) : (Builtin.zeroCells #[z] k).toList = List.replicate k z := by
  refine List.ext_getElem (by simp [Builtin.zeroCells]) fun j h1 h2 => ?_
  simp [Builtin.zeroCells, Nat.mod_one]

/-- append(s, make([]T, k)...) where there is room, elements of one cell. -/
theorem run_append_room_zeros {P : Program} (w : World) (t tn ty e : TypeId) (i : TypeInfo) (z : Value) (kq kn : IntKind) (ht : P.underlying t = some (.slice e)) (htn : P.underlying tn = some (.int kn)) (hi : P.info? e = some i) (hz : i.zero = some z)
    (hs : i.size = 1) (hzc : z.cells = #[z]) (h1 : z.oneCell' = true) (g sLen sCap : Nat) (cur : Array Value) (hg : w.heap[g]? = some (.cells cur e (0, 0))) (k : Nat) (h0 : 0 < k) (hroom : sLen + k ≤ sCap) (hfit : sLen + k ≤ cur.size) (h63 : k ≤ 65536) (h48 : i.bytes ≤ 65536) :
    (Builtin.append_ #[t, tn] ty #[.slice (some ⟨g, 0, none⟩) sLen sCap, .int kq k]).run P w =
      .ok (.slice (some ⟨g, 0, none⟩) (sLen + k) sCap) (w.setRow g (cur.toList.take sLen ++ List.replicate k z ++ cur.toList.drop (sLen + k)).toArray) := by
  have hk : k ≠ 0 := by omega
  have hw : IntKind.i64.wrap (k : Int) = k := by rw [IntKind.wrap_i64]; omega
  have hkb : k * i.bytes ≤ 65536 * 65536 := Nat.mul_le_mul h63 h48
  have h48i : ¬ (281474976710656 < (k : Int) * (i.bytes : Int)) := by
    rw [← Int.natCast_mul]
    omega
  have hneg : ¬ ((k : Int) < 0) := by omega
  have hst := run_storeCells_at P g sLen e (List.replicate k z) 0 cur w hg (by simpa using hfit) (fun v hv => by rw [List.mem_replicate] at hv; rw [hv.2]; exact h1)
  simp only [Nat.add_zero, List.length_replicate] at hst
  have hzl : (Builtin.zeroCells #[z] k).toList = List.replicate k z := zeroCells_one z k
  simp [Builtin.append_, run_underlying ht, run_underlying htn, sizeOf, typeInfo, zeroValue, hi, hz, hs, hzc, asInt, asIntOf, hw, hk, hneg, h48i, hroom, hzl, Addr.add_lit, hst]

/-- .. onto a row of the call's own. -/
theorem append_zeros_own {P : Program} (w : World) (base : Nat) (t tn ty e : TypeId) (i : TypeInfo) (z : Value) (kq kn : IntKind) (ht : P.underlying t = some (.slice e)) (htn : P.underlying tn = some (.int kn)) (hi : P.info? e = some i) (hz : i.zero = some z)
    (hs : i.size = 1) (hzc : z.cells = #[z]) (h1 : z.oneCell' = true) (v : Value) (n : Nat) (xs : List Value) (hown : w.ownsRow base e 1 v n xs) (k : Nat) (h0 : 0 < k) (h63 : n + k ≤ 65536) (h48 : i.bytes ≤ 65536) (hb : base ≤ w.heap.size) :
    ∃ v' w', (Builtin.append_ #[t, tn] ty #[v, .int kq k]).run P w = .ok v' w' ∧ w'.ownsRow base e 1 v' (n + k) (xs ++ List.replicate k z) ∧ w.grownBy w' v.ownBlock ∧ (v'.ownBlock = v.ownBlock ∨ v'.ownBlock = some w.heap.size) := by
  have hkb : (n + k) * i.bytes ≤ 65536 * 65536 := Nat.mul_le_mul h63 h48
  have hkb2 : k * i.bytes ≤ 65536 * 65536 := Nat.mul_le_mul (by omega) h48
  have hxl : xs.length = n := by simpa using hown.1
  have grow : ∀ (old : Nat), old < n + k → (w.drew.alloc (.cells (xs.toArray ++ Builtin.zeroCells z.cells k ++ Builtin.zeroCells z.cells (grownCap w (n + k) old e - (n + k))) e)).ownsRow base e 1
        (.slice (some ⟨w.heap.size, 0, none⟩) (n + k) (grownCap w (n + k) old e)) (n + k) (xs ++ List.replicate k z) := by
    intro old ho
    have hge := grownCap_ge w (n + k) old e
    have hcm : grownCap w (n + k) old e ≤ maxLen := grownCap_le_maxLen w (n + k) old e (by unfold maxLen; omega)
    refine ⟨by simp [hxl], .inr ⟨w.heap.size, _, _, rfl, hb, heap_alloc_new w.drew _, hge, hcm, ?_, ?_⟩⟩
    · simp only [Array.size_append, List.size_toArray, size_zeroCells, hzc, hxl]
      simp
      omega
    · rw [Array.toList_append, Array.toList_append, hzc, zeroCells_one]
      rw [List.take_append_of_le_length (by simp [hxl])]
      rw [List.take_of_length_le (by simp [hxl])]
  rcases hown.2 with ⟨rfl, rfl⟩ | ⟨g, cap, cur, rfl, hbg, hg, hnc, hcm, hcs, htake⟩
  · obtain rfl : xs = [] := List.eq_nil_of_length_eq_zero hxl
    have hr := Lib.run_append_nil_zeros (P := P) w t tn ty e i z kq kn ht htn hi hz k h0 (by omega) (by omega) (by omega)
    have hgr := grow 0 (by omega)
    simp only [Nat.zero_add, List.nil_append, Array.empty_append] at hgr ⊢
    refine ⟨_, _, hr, hgr, ⟨rfl, rfl, rfl, by simp, fun j hj _ => Below.heap_alloc w.drew _ j hj⟩, .inr rfl⟩
  · by_cases hroom : n + k ≤ cap
    · have hr := run_append_room_zeros (P := P) w t tn ty e i z kq kn ht htn hi hz hs hzc h1 g n cap cur hg k h0 hroom (by omega) (by omega) h48
      refine ⟨_, _, hr, ⟨by simp [hxl], .inr ⟨g, cap, _, rfl, hbg, setRow_heap w g cur _ e _ hg, hroom, hcm, ?_, ?_⟩⟩, ⟨rfl, rfl, rfl, by simp, fun j _ hj => setRow_other w g j _ (fun e => hj (by simp [Value.ownBlock, e]))⟩, .inl rfl⟩
      · simp only [List.size_toArray, List.length_append, List.length_take, List.length_drop, Array.length_toList, List.length_replicate]
        omega
      · rw [Nat.mul_one] at htake ⊢
        rw [htake]
        simp only
        rw [List.take_append_of_le_length (by simp [hxl])]
        rw [List.take_of_length_le (by simp [hxl])]
    · have hold : (Builtin.firstCells i.size n (.slice (some ⟨g, 0, none⟩) n cap)).run P w.drew = .ok xs.toArray w.drew := run_firstCells_some w.drew i.size n ⟨g, 0, none⟩ n cap xs (by rw [hs]; simp [hxl]) (fun j u hj => hown.cells (g := g) rfl j u hj)
      have hr := Lib.run_append_grow_zeros (P := P) w t tn ty e i z kq kn ht htn hi hz (some ⟨g, 0, none⟩) n cap xs hold k h0 (by omega) (by omega) (by omega) (by omega) (growslice_fits (by omega) (by omega))
      exact ⟨_, _, hr, grow cap (by omega), ⟨rfl, rfl, rfl, by simp, fun j hj _ => Below.heap_alloc w.drew _ j hj⟩, .inr rfl⟩

/-- append(s, x) onto a row of the call's own: where it lies. -/
theorem append_own_at {P : Program} (w : World) (base : Nat) (t ty e : TypeId) (i : TypeInfo) (z : Value) (size bytes : Nat) (ht : P.underlying t = some (.slice e)) (hi : P.info? e = some i) (hz : i.zero = some z)
    (hsize : i.size = size) (hby : i.bytes = bytes) (hzs : z.cells.size = size) (hsz : 0 < size)
    (v : Value) (n : Nat) (xs : List Value) (hown : w.ownsRow base e size v n xs)
    (a : Addr) (m c : Nat) (news : List Value) (hm : 0 < m) (hl : news.length = m * size) (hnews : ∀ j u, news[j]? = some u → w.cell? (a.add j) = some u) (h1 : ∀ u ∈ news, u.oneCell' = true)
    (h63 : n + m ≤ maxLen) (hbytes : (n + m) * bytes ≤ 140737488355328) (hbase : base ≤ w.heap.size) :
    ∃ v' w', (Builtin.append_ #[t, t] ty #[v, .slice (some a) m c]).run P w = .ok v' w' ∧ w'.ownsRow base e size v' (n + m) (xs ++ news) ∧ w.grownBy w' v.ownBlock ∧ (v'.ownBlock = v.ownBlock ∨ v'.ownBlock = some w.heap.size) := by
  obtain ⟨v', w', hr, h2, h3, h4⟩ := run_append_own (P := P) w base t ty e i z size bytes ht hi hz hsize hby hzs hsz v n xs hown a m c news hl hnews h1 h63 hbytes hbase
  refine ⟨v', w', hr, h2, h3, ?_⟩
  subst hsize
  subst hby
  have hsmall : n + m ≤ 9223372036854775807 := by simp only [maxLen] at h63; omega
  rcases hown.2 with ⟨rfl, rfl⟩ | ⟨g, cap, cur, rfl, hbg, hg, hnc, hcm, hcs, htake⟩
  · have hr2 := run_append_nil (P := P) w t ty e i z ht hi hz a m c news hl hnews hm (by omega) (by simp only [Nat.zero_add] at hbytes; omega)
    rw [hr] at hr2
    cases hr2
    exact .inr rfl
  · by_cases hroom : n + m ≤ cap
    · have hfit : n * i.size + news.length ≤ cur.size := by rw [hl, hcs, ← Nat.add_mul]; exact Nat.mul_le_mul_right _ hroom
      have hr2 := run_append_room (P := P) w t ty e i ht hi g n cap cur hg a m c news hl hnews h1 hroom hfit
      rw [hr] at hr2
      cases hr2
      exact .inl rfl
    · have hr2 := run_append_grow (P := P) w t ty e i z ht hi hz ⟨g, 0, none⟩ n cap xs hown.1 (hown.cells (g := g) rfl) a m c news hl hnews (by omega) (by omega) (growslice_fits (by omega) hbytes)
      rw [hr] at hr2
      cases hr2
      exact .inr rfl
end Go.Proofs.YtlpjojegdnconaaDoor.Ca

namespace Go.Proofs.YtlpjojegdnconaaDoor.Ca
open Go.RowKit Go.Lib
set_option linter.unusedVariables false

section
variable (w : World) (base p : Nat) (k : Int) (v u : Value) (n : Nat) (T : Nat → En) (L : Nat) (S : Nat → Nat)

theorem find_some (h : Mem w base p k v u n T L S) (x : Idx T n S L n) (i : Nat) (hi : i < n) :
    Calls Tryd.prog 81 #[.pointer (some ⟨p, 0, none⟩), .int .i64 (T i).s] w fun e w' => e = .returned (.tuple #[.int .i64 i, .bool true]) ∧ w' = w := by
  have hl := x.lt i hi
  have hS := x.at_ i hi (by omega)
  obtain ⟨q, cap, rfl, bq, lq, nc, cm⟩ := h.sp.form (by omega)
  have c2 := h.c2
  have hn6 := h.n6
  have hl6 := h.l6
  have s0 := h.sp.cell (T i).s (by omega)
  unfold sc at s0
  rw [hS] at s0
  generalize (T i).s = s at *
  have d1 : decide ((s : Int) < 0) = false := by simp
  have d2 : decide ((L : Int) ≤ (s : Int)) = false := by simp; omega
  have d3 : ¬ (s : Int) < 0 := by omega
  have hsz : (s : Int) < (L : Int) := by omega
  have e1 : (((i + 1 : Nat) : Int) == 0) = false := by simp; omega
  obtain ⟨y, hy⟩ : ∃ y : Nat, y = i + 1 := ⟨_, rfl⟩
  rw [← hy] at s0 e1
  have e2 : IntKind.i64.wrap (y : Int) = (y : Int) := by rw [IntKind.wrap_i64]; omega
  have e3 : (y : Int) - 1 = (i : Int) := by omega
  clear h x hS hy
  go_enter Tryd.func81, Tryd.ntmps81
  go_wp2
  go_ret2
  exact ⟨rfl, rfl⟩

theorem find_none (h : Mem w base p k v u n T L S) (slot : Int) (hs : slot < 0 ∨ (L : Int) ≤ slot ∨ ∃ s : Nat, slot = s ∧ s < L ∧ S s = 0) :
    Calls Tryd.prog 81 #[.pointer (some ⟨p, 0, none⟩), .int .i64 slot] w fun e w' => e = .returned (.tuple #[.int .i64 0, .bool false]) ∧ w' = w := by
  have c2 := h.c2
  have hl6 := h.l6
  by_cases h0 : slot < 0
  · have d1 : decide (slot < 0) = true := by simp [h0]
    clear h hs
    go_enter Tryd.func81, Tryd.ntmps81
    go_wp2
    go_ret2
    exact ⟨rfl, rfl⟩
  · have d1 : decide (slot < 0) = false := by simp; omega
    by_cases h1 : (L : Int) ≤ slot
    · have d2 : decide ((L : Int) ≤ slot) = true := by simp [h1]
      have d3 : decide (slot ≥ (L : Int)) = true := by simp [h1]
      rcases h.sp.shape with ⟨rfl, rfl⟩ | ⟨q, cap, rfl, bq, lq, nc, cm⟩
      · clear h hs
        go_enter Tryd.func81, Tryd.ntmps81
        go_wp2
        go_ret2
        exact ⟨rfl, rfl⟩
      · clear h hs
        go_enter Tryd.func81, Tryd.ntmps81
        go_wp2
        go_ret2
        exact ⟨rfl, rfl⟩
    · obtain ⟨s, rfl, hsL, hS⟩ : ∃ s : Nat, slot = s ∧ s < L ∧ S s = 0 := by
        rcases hs with q | q | q
        · omega
        · omega
        · exact q
      obtain ⟨q, cap, rfl, bq, lq, nc, cm⟩ := h.sp.form (by omega)
      have s0 := h.sp.cell s (by omega)
      unfold sc at s0
      rw [hS] at s0
      have d2 : decide ((L : Int) ≤ (s : Int)) = false := by simp; omega
      have hsz : (s : Int) < (L : Int) := by omega
      clear h hS
      go_enter Tryd.func81, Tryd.ntmps81
      go_wp2
      go_ret2
      exact ⟨rfl, rfl⟩

theorem len_any (h : Mem w base p k v u n T L S) : Calls Tryd.prog 92 #[.pointer (some ⟨p, 0, none⟩)] w fun e w' => e = .returned (.int .i64 n) ∧ w' = w := by
  have c1 := h.c1
  have hn6 := h.n6
  rcases h.tr.shape with ⟨rfl, rfl⟩ | ⟨g, cap, rfl, bg, lg, nc, cm⟩
  · clear h
    go_enter Tryd.func92, Tryd.ntmps92
    go_wp2
    go_ret
    exact ⟨rfl, rfl⟩
  · clear h
    go_enter Tryd.func92, Tryd.ntmps92
    go_wp2
    go_ret
    exact ⟨rfl, rfl⟩

/-- What Top, Pop answer. -/
abbrev TopV (s : Int) (r : Rk) (b : Bool) : Ending := .returned (.tuple #[.int .i64 s, V r, .bool b])

theorem top_none (h : Mem w base p k v u 0 T L S) : Calls Tryd.prog 76 #[.pointer (some ⟨p, 0, none⟩)] w fun e w' => e = TopV 0 ⟨0, 0, 0, 0⟩ false ∧ Gr w w' := by
  have C := Lib.hid (fun W (g : Gr w W) => len_any W base p k v u 0 T L S (h.gr g))
  clear h
  go_enter Tryd.func76, Tryd.ntmps76
  go_wp2_with fail
  refine (C.out _ ((Ke.refl _ _).alloc _)).mono ?_
  rintro e w1 ⟨rfl, hw⟩
  obtain rfl := hw.symm
  clear hw
  go_wp2
  exact bodyPost_ret (v := .tuple #[.int .i64 0, V ⟨0, 0, 0, 0⟩, .bool false]) (by simp [results, Tryd.results76, go_sem]) rfl ⟨rfl, (Ke.refl _ _).alloc _⟩

theorem top_some (h : Mem w base p k v u n T L S) (hn : 0 < n) : Calls Tryd.prog 76 #[.pointer (some ⟨p, 0, none⟩)] w fun e w' => e = TopV (T 0).s (T 0).r true ∧ Gr w w' := by
  have C := Lib.hid (fun W (g : Gr w W) => len_any W base p k v u n T L S (h.gr g))
  obtain ⟨g, cap, rfl, bg, lg, nc, cm⟩ := h.tr.form hn
  have c1 := h.c1
  have hn6 := h.n6
  have pl := h.pl
  obtain ⟨t0, t1, t2, t3, t4⟩ := tree_cells h.tr 0 hn
  generalize T 0 = y at *
  obtain ⟨ys, yd, yb, yg, yi⟩ := y
  simp only [Nat.zero_mul, Nat.zero_add] at t0 t1 t2 t3 t4
  have e1 : ((n : Int) == 0) = false := by simp; omega
  have hnz : 0 < (n : Int) := by omega
  clear h
  go_enter Tryd.func76, Tryd.ntmps76
  go_wp2_with fail
  refine (C.out _ ((Ke.refl _ _).alloc _)).mono ?_
  rintro e w1 ⟨rfl, hw⟩
  obtain rfl := hw.symm
  clear hw
  go_wp2
  go_region
  go_wp2
  refine bodyPost_ret (v := .tuple #[.int .i64 ys, V ⟨yd, yb, yg, yi⟩, .bool true]) (by simp [results, Tryd.results76, go_sem]) rfl ⟨rfl, ?_⟩
  repeat (first | exact Ke.refl _ _ | with_reducible apply Ke.drew | with_reducible apply Ke.alloc | with_reducible refine Ke.set ?_ (.inr (by simp)) _)
end

theorem new_any (w : World) (k : Int) : Calls Tryd.prog 80 #[.int .i64 k] w fun e w' => e = .returned (.pointer (some ⟨w.heap.size, 0, none⟩)) ∧ w' = w.alloc (.cells #[.int .i64 k, .slice none 0 0, .slice none 0 0] 138) := by
  go_enter Tryd.func80, Tryd.ntmps80
  go_wp2
  go_ret
  exact ⟨rfl, rfl⟩
theorem mem_new (w : World) (base : Nat) (hb : base ≤ w.heap.size) (k : Int) (T : Nat → En) (S : Nat → Nat) : Mem (w.alloc (.cells #[.int .i64 k, .slice none 0 0, .slice none 0 0] 138)) base w.heap.size k (.slice none 0 0) (.slice none 0 0) 0 T 0 S := by
  have hb' : (w.alloc (.cells #[.int .i64 k, .slice none 0 0, .slice none 0 0] 138)).heap[w.heap.size]? = some (.cells #[.int .i64 k, .slice none 0 0, .slice none 0 0] 138 (0, 0)) := heap_alloc_new w _
  refine ⟨hb, by omega, by omega, by simp [go_sem], by simp [go_sem], by simp [go_sem], fun o => ?_, ?_, ?_, by simp [Value.ownBlock], by simp [Value.ownBlock], fun g hg => by simp [Value.ownBlock] at hg⟩
  · exact frozen_of_row _ _ _ _ _ hb'
  · exact World.ownsRow_nil _ _ _ _
  · exact World.ownsRow_nil _ _ _ _
end Go.Proofs.YtlpjojegdnconaaDoor.Ca
