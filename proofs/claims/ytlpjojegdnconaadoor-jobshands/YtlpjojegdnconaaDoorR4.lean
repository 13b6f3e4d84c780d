/- The table of slots: contracts of Put and Drop. -/
import Derived.Test.YtlpjojegdnconaaDoorR3
namespace Go.Proofs.YtlpjojegdnconaaDoor
open Go.RowKit Go.Lib Go.Maps
set_option linter.unusedVariables false

/-- What a call on the table leaves as it was. -/
structure Kept3 (p g bm : Nat) (w w' : World) : Prop where
  os : w'.os = w.os
  tape : w'.tape = w.tape
  output : w'.output = w.output
  size : w.heap.size ≤ w'.heap.size
  block : ∀ k, k < w.heap.size → k ≠ p → k ≠ g → k ≠ bm → w'.heap[k]? = w.heap[k]?
  hi : ∀ o, 67 ≤ o → w'.cell? ⟨p, o, none⟩ = w.cell? ⟨p, o, none⟩
theorem Kept3.refl (p g bm : Nat) (w : World) : Kept3 p g bm w w := ⟨rfl, rfl, rfl, Nat.le_refl _, fun _ _ _ _ _ => rfl, fun _ _ => rfl⟩
theorem Kept3.drew {p g bm : Nat} {w w' : World} (h : Kept3 p g bm w w') : Kept3 p g bm w w'.drew := ⟨h.os, h.tape, h.output, h.size, h.block, h.hi⟩
theorem Kept3.trans {p g bm : Nat} {w w' w'' : World} (h : Kept3 p g bm w w') (k : Kept3 p g bm w' w'') : Kept3 p g bm w w'' :=
  ⟨k.os.trans h.os, k.tape.trans h.tape, k.output.trans h.output, Nat.le_trans h.size k.size, fun j hj h1 h2 h3 => (k.block j (Nat.lt_of_lt_of_le hj h.size) h1 h2 h3).trans (h.block j hj h1 h2 h3), fun o ho => (k.hi o ho).trans (h.hi o ho)⟩
theorem Turn.kept3 {p : Nat} (g bm : Nat) {w w' : World} (h : Turn p w w') (hh : ∀ o, 67 ≤ o → w'.cell? ⟨p, o, none⟩ = w.cell? ⟨p, o, none⟩) : Kept3 p g bm w w' := ⟨h.gr.os, h.gr.tape, h.gr.output, h.gr.size, fun k hk h1 _ _ => h.gr.block k hk (by simpa using h1), hh⟩
theorem grown_kept3 {p g bm : Nat} {w w' : World} (h : w.grownBy w' (some bm)) (hp : p < w.heap.size) (hpm : p ≠ bm) : Kept3 p g bm w w' := ⟨h.os, h.tape, h.output, h.size, fun k hk _ _ h3 => h.block k hk (by simpa using h3), fun o _ => World.cell?_of_block (a := ⟨p, o, none⟩) (h.block p hp (by simpa using hpm))⟩
theorem Turn.keptg {g : Nat} (p bm : Nat) {w w' : World} (h : Turn g w w') (hp : p < w.heap.size) (hpg : p ≠ g) : Kept3 p g bm w w' := ⟨h.gr.os, h.gr.tape, h.gr.output, h.gr.size, fun k hk _ h2 _ => h.gr.block k hk (by simpa using h2), fun o _ => World.cell?_of_block (a := ⟨p, o, none⟩) (h.gr.block p hp (by simpa using hpg))⟩

theorem put_there (p g bm n : Nat) (A : Nat → Option Int) (D : DataW Unit) (w : World) (h : Rep w p g bm n A D) (x : Int) (hx : (Lit.int .i64 x).wf = true) (s : Nat) (hs : A s = some x) :
    Calls Tryd.prog 30 #[.pointer (some ⟨p, 0, none⟩), .int .i64 x] w fun e w' => e = .returned (.tuple #[.int .i64 0, .int .i64 4]) ∧ w' = w := by
  have c1 := h.mp
  have OWN := Lib.hid h.own
  have HH := Lib.hid ((h.map.has x).2 ⟨s, hs⟩)
  clear h hs
  go_enter Tryd.func30, Tryd.ntmps30
  go_wp2_with (at_lookup; refine wpList_lookup_own_ok_int _ rfl _ _ 62 rfl 3 3 .i64 law3 Tryd.underlying62 Tryd.underlying3 (zero3 _) bm _ D rfl OWN.out _ _ rfl (keyOf_int_mk Tryd.underlying3 hx) ?_; intro c hat hwc; rw [HH.out]; clear hat hwc)
  go_ret2
  exact ⟨rfl, rfl⟩

theorem put_full (p g bm n : Nat) (A : Nat → Option Int) (D : DataW Unit) (w : World) (h : Rep w p g bm n A D) (x : Int) (hx : (Lit.int .i64 x).wf = true) (hn : ∀ s, A s ≠ some x) (hf : ∀ s, s < n → A s ≠ none) :
    Calls Tryd.prog 30 #[.pointer (some ⟨p, 0, none⟩), .int .i64 x] w fun e w' => e = .returned (.tuple #[.int .i64 0, .int .i64 6]) ∧ w' = w := by
  have c1 := h.mp
  have OWN := Lib.hid h.own
  have HH := Lib.hid (h.map.not_has hn)
  have CL := Lib.hid (least_none p _ w h.room (fun s _ => by
    by_cases e : s < n
    · have := hf s e
      cases q : A s
      · exact absurd q this
      · simp
    · simp [e]))
  clear h hn hf
  go_enter Tryd.func30, Tryd.ntmps30
  go_wp2_with (first
    | (at_lookup; refine wpList_lookup_own_ok_int _ rfl _ _ 62 rfl 3 3 .i64 law3 Tryd.underlying62 Tryd.underlying3 (zero3 _) bm _ D rfl OWN.out _ _ rfl (keyOf_int_mk Tryd.underlying3 hx) ?_; intro c hat hwc; rw [HH.out]; clear hat hwc)
    | (go_at_call 47; refine CL.out.mono ?_; rintro e w' ⟨rfl, rfl⟩))
  go_ret2
  exact ⟨rfl, rfl⟩

theorem put_new (p g bm n : Nat) (A : Nat → Option Int) (D : DataW Unit) (w : World) (h : Rep w p g bm n A D) (hT : Tab w) (x : Int) (hx : (Lit.int .i64 x).wf = true) (hn : ∀ s, A s ≠ some x) (m : Nat) (hm : m < n) (hA : A m = none) (hl : ∀ s, s < m → A s ≠ none) :
    Calls Tryd.prog 30 #[.pointer (some ⟨p, 0, none⟩), .int .i64 x] w fun e w' => e = .returned (.tuple #[.int .i64 m, .int .i64 0]) ∧ Kept3 p g bm w w' ∧ Rep w' p g bm n (upd A m (some x)) (D.put (.int .i64 x) (.lit (.int .i64 m))) := by
  have c1 := h.mp
  have c0 := h.ids
  have hn4 := h.n4
  have hmz : (m : Int) < (n : Int) := by omega
  have OWN := Lib.hid h.own
  have HH := Lib.hid (h.map.not_has hn)
  have CL := Lib.hid (least_some p _ w h.room hT m (by simp [hA, hm]) (fun s hs => by
    have := hl s hs
    cases q : A s
    · exact absurd q this
    · simp) (by omega))
  have CR := Lib.hid (remove_any p m _ w (by omega) h.room)
  obtain ⟨v, cv, _⟩ := h.cell m hm
  have R := Lib.hid h
  have HN := Lib.hid hn
  have hsz : Maps.size D < maxLen := by have := h.size; have := cnt_le A n; unfold maxLen; omega
  clear h hn hl
  go_enter Tryd.func30, Tryd.ntmps30
  go_wp2_with (first
    | (at_lookup; refine wpList_lookup_own_ok_int _ rfl _ _ 62 rfl 3 3 .i64 law3 Tryd.underlying62 Tryd.underlying3 (zero3 _) bm _ D rfl OWN.out _ _ rfl (keyOf_int_mk Tryd.underlying3 hx) ?_; intro c hat hwc; rw [HH.out]; clear hat hwc)
    | (go_at_call 47; refine CL.out.mono ?_; rintro e w' ⟨rfl, hw'⟩; obtain rfl := hw'.symm))
  refine CR.out.mono ?_
  rintro e w1 ⟨rfl, T1, R1, k1⟩
  have TT := Lib.hid T1
  have RR := Lib.hid R1
  have KK := Lib.hid k1
  have hgp := R.out.pg
  have d0 : w1.cell? ⟨p, 0, none⟩ = some (.slice (some ⟨g, 0, none⟩) n n) := (k1 0 (by omega)).trans c0
  have d1 : w1.cell? ⟨p, 1, none⟩ = some (.map (some bm)) := (k1 1 (by omega)).trans c1
  have eg : w1.heap[g]? = w.heap[g]? := T1.gr.block g R.out.gl (by simpa using Ne.symm hgp)
  have dg : w1.cell? ⟨g, m, none⟩ = some (.int .i64 v) := (World.cell?_of_block (a := ⟨g, m, none⟩) eg).trans cv
  have dz : w1.frozen? ⟨g, m, none⟩ = false := (World.frozen?_of_block (a := ⟨g, m, none⟩) eg).trans (R.out.gz m)
  have EG := Lib.hid eg
  clear T1 R1 k1 c0 c1 cv CL CR HH eg
  have hpg2 : ¬ g = p := Ne.symm hgp
  have OW2 : Hid ((w1.setCell ⟨g, m, none⟩ (.int .i64 x)).ownsMap Tryd.prog 3 (plainElem Tryd.prog 3) bm (Maps.size D) D) :=
    (OWN.out.kept TT.out.gr (by simpa using Ne.symm R.out.pm)).setCell (Ne.symm R.out.gm) _
  go_wp2_with (at_mapUpdate; refine wpList_mapUpdate_in _ rfl _ _ _ 62 rfl 3 3 law3 Tryd.underlying62 _ bm (Maps.size D) D rfl OW2.out hsz _ _ _ rfl rfl (keyOf_int_mk Tryd.underlying3 hx) _ [] (plainElem_int Tryd.underlying3 (WalkArith.wf_i64 (by omega))) ?_)
  intro w3 own3 hturn
  go_wp2
  go_ret2
  have TS : Turn g w1 (w1.setCell ⟨g, m, none⟩ (.int .i64 x)) := (Turn.refl g w1).set _ _
  have G3 := hturn.grown
  have r := R.out
  have hs1 : w1.heap.size = w.heap.size := TT.out.size
  have hsz2 : (w1.setCell ⟨g, m, none⟩ (.int .i64 x)).heap.size = w.heap.size := TS.size.trans hs1
  have ep : w3.heap[p]? = w1.heap[p]? := (G3.block p (by rw [hsz2]; exact r.pl) (by simpa using r.pm)).trans (TS.gr.block p (by rw [hs1]; exact r.pl) (by simpa using r.pg))
  have eg3 : w3.heap[g]? = (w1.setCell ⟨g, m, none⟩ (.int .i64 x)).heap[g]? := G3.block g (by rw [hsz2]; exact r.gl) (by simpa using r.gm)
  have hle : w.heap.size ≤ w3.heap.size := by rw [← hsz2]; exact G3.size
  refine ⟨rfl, ((TT.out.kept3 g bm (fun o ho => KK.out o (.inr ho))).trans (TS.keptg p bm (by rw [hs1]; exact r.pl) r.pg)).trans (grown_kept3 G3 (by rw [hsz2]; exact r.pl) r.pm), ?_⟩
  exact {
    n4 := r.n4, pg := r.pg, pm := r.pm, gm := r.gm
    pl := Nat.lt_of_lt_of_le r.pl hle, gl := Nat.lt_of_lt_of_le r.gl hle, ml := Nat.lt_of_lt_of_le r.ml hle
    ids := (World.cell?_of_block ep).trans d0
    mp := (World.cell?_of_block ep).trans d1
    room := (RR.out.congr (fun s => by
      by_cases e : s = m
      · subst e; simp [upd_same]
      · rw [upd_other _ _ e, upd_other _ _ e])).keep ep
    out := fun s hs => by rw [upd_other _ _ (by omega)]; exact r.out s hs
    wf := fun s y hs => by
      by_cases e : s = m
      · subst e; rw [upd_same] at hs; obtain rfl := Option.some.inj hs; exact hx
      · rw [upd_other _ _ e] at hs; exact r.wf s y hs
    cell := fun s hs => by
      by_cases e : s = m
      · subst e
        refine ⟨x, (World.cell?_of_block (a := ⟨g, s, none⟩) eg3).trans (World.cell?_setCell_same w1 _ _ dg), fun y hy => ?_⟩
        rw [upd_same] at hy; exact Option.some.inj hy
      · obtain ⟨v', h1, h2⟩ := r.cell s hs
        refine ⟨v', ?_, fun y hy => ?_⟩
        · exact ((World.cell?_of_block (a := ⟨g, s, none⟩) eg3).trans (World.cell?_setCell_other w1 _ _ _ (fun q => e (by cases q; rfl)))).trans ((World.cell?_of_block (a := ⟨g, s, none⟩) EG.out).trans h1)
        · rw [upd_other _ _ e] at hy; exact h2 y hy
    gz := fun o => ((World.frozen?_of_block (a := ⟨g, o, none⟩) eg3).trans (TS.fr o)).trans ((World.frozen?_of_block (a := ⟨g, o, none⟩) EG.out).trans (r.gz o))
    own := ownsMap_tight own3
    map := r.map.put r.own.isMap hA HN.out
    size := by
      rw [size_put (r.own.tidy law3), r.map.not_has HN.out, cnt_put hA n hm, r.size]; simp }

theorem drop_none (p g bm n : Nat) (A : Nat → Option Int) (D : DataW Unit) (w : World) (h : Rep w p g bm n A D) (x : Int) (hx : (Lit.int .i64 x).wf = true) (hn : ∀ s, A s ≠ some x) :
    Calls Tryd.prog 50 #[.pointer (some ⟨p, 0, none⟩), .int .i64 x] w fun e w' => e = .returned (.bool false) ∧ w' = w := by
  have CG := Lib.hid (get_none p g bm n A D w h x hx hn)
  clear h hn
  go_enter Tryd.func50, Tryd.ntmps50
  go_wp2_with (go_at_call 49; refine CG.out.mono ?_; rintro e w' ⟨rfl, hw'⟩; obtain rfl := hw'.symm)
  go_ret
  exact ⟨rfl, rfl⟩

theorem drop_some (p g bm n : Nat) (A : Nat → Option Int) (D : DataW Unit) (w : World) (h : Rep w p g bm n A D) (x : Int) (hx : (Lit.int .i64 x).wf = true) (m : Nat) (hA : A m = some x) :
    Calls Tryd.prog 50 #[.pointer (some ⟨p, 0, none⟩), .int .i64 x] w fun e w' => e = .returned (.bool true) ∧ Kept3 p g bm w w' ∧ Rep w' p g bm n (upd A m none) (D.del (.int .i64 x)) := by
  have hm : m < n := by
    rcases Nat.lt_or_ge m n with a | a
    · exact a
    · rw [h.out m a] at hA; cases hA
  have hn4 := h.n4
  have c1 := h.mp
  have CG := Lib.hid (get_some p g bm n A D w h x hx m hA)
  have OWN := Lib.hid h.own
  have R := Lib.hid h
  have HA := Lib.hid hA
  clear h hA
  go_enter Tryd.func50, Tryd.ntmps50
  go_wp2_with (first
    | (go_at_call 49; refine CG.out.mono ?_; rintro e w' ⟨rfl, hw'⟩; obtain rfl := hw'.symm)
    | (at_delete; refine wpList_delete_own _ rfl _ _ 62 3 rfl 3 law3 Tryd.underlying62 _ bm _ D rfl OWN.out _ _ rfl (keyOf_int_mk Tryd.underlying3 hx) ?_; intro w1 own1 turn1))
  have G1 := Lib.hid turn1.grown
  have O1 := Lib.hid own1
  have ep : w1.heap[p]? = w.heap[p]? := G1.out.block p R.out.pl (by simpa using R.out.pm)
  have EP := Lib.hid ep
  have CR := Lib.hid (add_any p m _ w1 (by omega) (R.out.room.keep ep))
  clear own1 turn1 ep c1 CG OWN
  go_wp2_with (go_at_call 46; refine CR.out.mono ?_; rintro e w2 ⟨rfl, T2, R2, k2⟩)
  go_ret
  have r := R.out
  have e1 : w1.heap.size = w.heap.size ∨ w.heap.size ≤ w1.heap.size := .inr G1.out.size
  have hle1 : w.heap.size ≤ w1.heap.size := G1.out.size
  have hle : w.heap.size ≤ w2.heap.size := Nat.le_trans hle1 T2.gr.size
  have eg : w2.heap[g]? = w.heap[g]? := (T2.gr.block g (Nat.lt_of_lt_of_le r.gl hle1) (by simpa using Ne.symm r.pg)).trans (G1.out.block g r.gl (by simpa using r.gm))
  refine ⟨rfl, (grown_kept3 G1.out r.pl r.pm).trans (T2.kept3 g bm (fun o ho => k2 o (.inr ho))), ?_⟩
  exact {
    n4 := r.n4, pg := r.pg, pm := r.pm, gm := r.gm
    pl := Nat.lt_of_lt_of_le r.pl hle, gl := Nat.lt_of_lt_of_le r.gl hle, ml := Nat.lt_of_lt_of_le r.ml hle
    ids := (k2 0 (by omega)).trans ((World.cell?_of_block EP.out).trans r.ids)
    mp := (k2 1 (by omega)).trans ((World.cell?_of_block EP.out).trans r.mp)
    room := R2.congr (fun s => by
      by_cases e : s = m
      · subst e; simp [upd_same, hm]
      · rw [upd_other _ _ e, upd_other _ _ e])
    out := fun s hs => by rw [upd_other _ _ (by omega)]; exact r.out s hs
    wf := fun s y hs => by
      by_cases e : s = m
      · subst e; rw [upd_same] at hs; cases hs
      · rw [upd_other _ _ e] at hs; exact r.wf s y hs
    cell := fun s hs => by
      obtain ⟨v', h1, h2⟩ := r.cell s hs
      refine ⟨v', (World.cell?_of_block (a := ⟨g, s, none⟩) eg).trans h1, fun y hy => ?_⟩
      by_cases e : s = m
      · subst e; rw [upd_same] at hy; cases hy
      · rw [upd_other _ _ e] at hy; exact h2 y hy
    gz := fun o => (World.frozen?_of_block (a := ⟨g, o, none⟩) eg).trans (r.gz o)
    own := ownsMap_tight (O1.out.kept T2.gr (by simpa using Ne.symm r.pm))
    map := r.map.del HA.out
    size := by
      have h1 := size_del (k := .int .i64 x) (r.own.tidy law3)
      rw [(r.map.has x).2 ⟨m, HA.out⟩] at h1
      have h2 := cnt_drop HA.out n hm
      have h3 := r.size
      simp at h1
      omega }
end Go.Proofs.YtlpjojegdnconaaDoor
