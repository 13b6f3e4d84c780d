/- pick: the contract of first: the ids of the best in their order. -/
import Derived.Test.YtkapejgokcpbiaaT5
namespace Go.Proofs.Ytkapejgokcpbiaa
open Go.RowKit Go.Lib
set_option linter.unusedVariables false
set_option maxRecDepth 100000
set_option maxHeartbeats 2000000

/-- What the heap of the tops holds: the first of all, if there is one. -/
def tpM (o : Option Rk) (s : Nat) : Option Rk := if s = 0 then o else none
def tpN (o : Option Rk) : Nat := if o.isSome then 1 else 0
theorem tpM_cut (r : Rk) : upd (tpM (some r)) 0 none = tpM none := by
  funext s; unfold upd tpM; split <;> rfl
theorem tpM_put (r : Rk) : upd (tpM none) 0 (some r) = tpM (some r) := by
  funext s; unfold upd tpM; split <;> rfl
theorem tpM_none : tpM none = fun _ => none := by
  funext s; unfold tpM; split <;> rfl
theorem tpM_first (r : Rk) : First 1 (tpM (some r)) 0 r := ⟨rfl, fun s' r' h ne => by unfold tpM at h; rw [if_neg ne] at h; cases h⟩

/-- The state within first. -/
structure Fs (w W : World) (base pl g cap hp cnt pt : Nat) (F : Nat → Prop) (m : Nat) (M : Nat → Option Rk) (Ft : Nat → Prop) (o : Option Rk) (v : Value) (l : List Int) : Prop where
  ln : Ln W base pl g cap hp cnt F m M
  tp : St W base pt 1 Ft (tpN o) (tpM o)
  row : RowI W base v l
  dt : ∀ j, FootL pl g F j → ¬ Ft j
  dv : ∀ j, v.ownBlock = some j → ¬ FootL pl g F j ∧ ¬ Ft j
  ke : Ke (FootL pl g F) w W
  own : ∀ j, Ft j → w.heap.size ≤ j
  ov : ∀ j, v.ownBlock = some j → w.heap.size ≤ j
section
variable {w W W' : World} {base pl g cap hp cnt pt : Nat} {F : Nat → Prop} {m m' : Nat} {M M' : Nat → Option Rk} {Ft Ft' : Nat → Prop} {o : Option Rk} {v : Value} {l : List Int}
theorem Fs.gr (h : Fs w W base pl g cap hp cnt pt F m M Ft o v l) (k : Gr W W') : Fs w W' base pl g cap hp cnt pt F m M Ft o v l :=
  { h with ln := h.ln.gr k, tp := h.tp.gr k, row := rowI_gr h.row k, ke := h.ke.trans (Ke.of_gr k) }
/-- The tops turned. -/
theorem Fs.top {o' : Option Rk} (h : Fs w W base pl g cap hp cnt pt F m M Ft o v l) (s : St W' base pt 1 Ft' (tpN o') (tpM o')) (k : Sv Ft Ft' W W') : Fs w W' base pl g cap hp cnt pt F m M Ft' o' v l :=
  { ln := h.ln.ke k.ke h.dt
    tp := s
    row := rowI_keep h.row k.ke (fun j hj => (h.dv j hj).2)
    dt := fun j hj q => by
      rcases k.ft j q with z | z
      · exact h.dt j hj z
      · have := (h.ln.lt hj).2; omega
    dv := fun j hj => ⟨(h.dv j hj).1, fun q => by
      rcases k.ft j q with z | z
      · exact (h.dv j hj).2 z
      · have := (Row.lt h.row hj).2; omega⟩
    ke := h.ke.comp k.ke (fun j hj q => by have := h.own j q; omega)
    own := fun j q => by
      rcases k.ft j q with z | z
      · exact h.own j z
      · have := h.ke.size; omega
    ov := h.ov }
/-- One id more. -/
theorem Fs.app (h : Fs w W base pl g cap hp cnt pt F m M Ft o v l) (hb : base ≤ w.heap.size) (hl : l.length ≤ 1000000) (x : Int) :
    ∃ v' w1, (∀ ty, (Builtin.append_ #[37, 37] ty #[v, .slice (some ⟨W.heap.size, 0, none⟩) 1 1]).run Try.prog (W.alloc (.cells #[.int .i64 x] 3)) = .ok v' w1) ∧ Fs w w1 base pl g cap hp cnt pt F m M Ft o v' (l ++ [x]) := by
  obtain ⟨v', w1, hr, hg, row, ha⟩ := row_more h.row (Nat.le_trans hb h.ke.size) hl x
  have K : Ke (fun j => v.ownBlock = some j) W w1 := ((Ke.refl _ W).alloc _).grown hg (fun j hj => .inl hj)
  have nb : ∀ j, v'.ownBlock = some j → v.ownBlock = some j ∨ j = W.heap.size + 1 := fun j hj => by
    rcases ha with z | z
    · rw [z] at hj; exact .inl hj
    · rw [z] at hj; exact .inr (Option.some.inj hj).symm
  refine ⟨v', w1, hr, ?_⟩
  exact {
    ln := h.ln.ke K (fun j hj q => (h.dv j q).1 hj)
    tp := h.tp.ke K (fun j hj q => (h.dv j q).2 hj)
    row := row
    dt := h.dt
    dv := fun j hj => by
      rcases nb j hj with z | z
      · exact h.dv j z
      · exact ⟨fun q => by have := (h.ln.lt q).2; omega, fun q => by have := (h.tp.lt q).2; omega⟩
    ke := h.ke.comp K (fun j hj q => by have := h.ov j q; omega)
    own := h.own
    ov := fun j hj => by
      rcases nb j hj with z | z
      · exact h.ov j z
      · have := h.ke.size; omega }
/-- The heap turned. -/
theorem Fs.heap (h : Fs w W base pl g cap hp cnt pt F m M Ft o v l) (s : St W' base hp 1 F m' M') (k : Ke F W W') : Fs w W' base pl g cap hp cnt pt F m' M' Ft o v l :=
  { ln := h.ln.heap s ⟨k, fun j q => .inl q⟩
    tp := h.tp.ke k (fun j hj q => h.dt j (.inr (.inr q)) hj)
    row := rowI_keep h.row k (fun j hj q => (h.dv j hj).1 (.inr (.inr q)))
    dt := h.dt
    dv := h.dv
    ke := h.ke.trans (k.mono (fun j _ q => .inr (.inr q)))
    own := h.own
    ov := h.ov }
end
section
variable {w W : World} {base pl g cap hp cnt pt : Nat} {F : Nat → Prop} {m : Nat} {M : Nat → Option Rk} {Ft : Nat → Prop} {v : Value} {l : List Int} {cl : List Nat} {key : Nat → Rk} {R R0 : Nat → Bool} {N : Nat}
/-- show, whether there is one or not. -/
theorem show_fs (h : Fs w W base pl g cap hp cnt pt F m M Ft none v l) (hm : Hm cl key R M) (c : Cl cl N R0) (hd : Dis key R0 N) (hs : ∀ j, R j = true → R0 j = true) :
    Calls Try.prog 34 #[.pointer (some ⟨pt, 0, none⟩), .int .i64 0, .pointer (some ⟨hp, 0, none⟩)] W fun e w' => e = .returned (.tuple #[]) ∧ ∃ Ft', Fs w w' base pl g cap hp cnt pt F m M Ft' ((fstI key R N).map key) v l := by
  have hd' : Dis key R N := hd.sub (fun j _ q => hs j q)
  rcases Nat.eq_zero_or_pos m with rfl | hpos
  · have e := hm.left c hs (fun s => st_zero h.ln.st s)
    rw [e]
    refine (show_none h.ln.st 0).mono ?_
    rintro e w' ⟨rfl, k⟩
    exact ⟨rfl, Ft, h.gr k⟩
  · obtain ⟨s, r, hf, hs6⟩ := st_first h.ln.st hpos
    obtain ⟨a, _, hk, e⟩ := hm.first c hd' hs hf
    rw [e]
    refine (show_some h.ln.st hf h.tp 0 (by omega) rfl).mono ?_
    rintro e w' ⟨rfl, Ft', s', k⟩
    rw [tpM_put] at s'
    refine ⟨rfl, Ft', ?_⟩
    have := h.top (o' := some r) s' k
    rw [← hk] at this
    exact this
/-- The tops' Pop. -/
theorem pop_fs_none (h : Fs w W base pl g cap hp cnt pt F m M Ft none v l) : Calls Try.prog 35 #[.pointer (some ⟨pt, 0, none⟩)] W fun e w' => e = TopV 0 ⟨0, 0, 0, 0⟩ false ∧ Fs w w' base pl g cap hp cnt pt F m M Ft none v l := by
  refine (st_pop_none h.tp).mono ?_
  rintro e w' ⟨rfl, k⟩
  exact ⟨rfl, h.gr k⟩
theorem pop_fs_some {r : Rk} (h : Fs w W base pl g cap hp cnt pt F m M Ft (some r) v l) : Calls Try.prog 35 #[.pointer (some ⟨pt, 0, none⟩)] W fun e w' => e = TopV 0 r true ∧ Fs w w' base pl g cap hp cnt pt F m M Ft none v l := by
  refine (st_pop h.tp 0 r (tpM_first r)).mono ?_
  rintro e w' ⟨rfl, s, k⟩
  rw [tpM_cut] at s
  exact ⟨rfl, h.top (o' := none) s ⟨k, fun j q => .inl q⟩⟩
/-- The heap's Pop. -/
theorem hpop_fs {o : Option Rk} {a : Nat} (h : Fs w W base pl g cap hp cnt pt F m M Ft o v l) (hm : Hm cl key R M) (c : Cl cl N R0) (hd : Dis key R0 N) (hs : ∀ j, R j = true → R0 j = true) (e : fstI key R N = some a) :
    Calls Try.prog 35 #[.pointer (some ⟨hp, 0, none⟩)] W fun x w' => (∃ s, x = TopV s (key a) true) ∧ ∃ m' M', Fs w w' base pl g cap hp cnt pt F m' M' Ft o v l ∧ Hm cl key (upd R a false) M' := by
  have hd' : Dis key R N := hd.sub (fun j _ q => hs j q)
  obtain ⟨s, es, hf⟩ := hm.fst c hd' hs e
  obtain ⟨m', rfl⟩ : ∃ m', m = m' + 1 := by
    rcases m with _ | m'
    · have := st_zero h.ln.st s
      rw [hf.has] at this
      cases this
    · exact ⟨m', rfl⟩
  refine (st_pop h.ln.st s _ hf).mono ?_
  rintro x w' ⟨rfl, s', k⟩
  exact ⟨⟨s, rfl⟩, m', _, h.heap s' k, hm.cut c es⟩

/-- What first leaves. -/
def FirstP (w : World) (base pl g : Nat) (F : Nat → Prop) (l : List Int) (e : Ending) (w' : World) : Prop := ∃ v, e = .returned v ∧ RowI w' base v l ∧ Ke (FootL pl g F) w w'
/-- .. on its way. -/
structure FW (w W : World) (base pl g cap hp cnt pt : Nat) (F : Nat → Prop) (cl : List Nat) (key : Nat → Rk) (N : Nat) (R0 : Nat → Bool) (k : Nat) (v : Value) (L : List Nat) (R : Nat → Bool) : Prop where
  ex : ∃ m M Ft, Fs w W base pl g cap hp cnt pt F m M Ft ((fstI key R N).map key) v (L.map fun a => (key a).i) ∧ Hm cl key R M
  sub : ∀ j, R j = true → R0 j = true
  rch : Rch key N R0 L R
  lk : L.length ≤ k
  ln : L.length + cnB R N ≤ N

theorem FW.done {k : Nat} {L : List Nat} (h : FW w W base pl g cap hp cnt pt F cl key N R0 k v L R) (e : L.length = k ∨ fstI key R N = none) : FirstP w base pl g F ((bst key N k R0).map fun a => (key a).i) (.returned v) W := by
  obtain ⟨m, M, Ft, f, _⟩ := h.ex
  have : bst key N k R0 = L := by
    rcases e with rfl | e
    · exact h.rch.done
    · exact h.rch.none e h.lk
  rw [this]
  exact ⟨v, rfl, f.row, f.ke⟩
theorem first_some (h : Ln w base pl g cap hp cnt F m M) (hb : base ≤ w.heap.size) (hm : Hm cl key R0 M) (c : Cl cl N R0) (hd : Dis key R0 N) (hN : N ≤ 65536) (n : Int) :
    Calls Try.prog 25 #[.pointer (some ⟨pl, 0, none⟩), .int .i64 n] w fun e w' => FirstP w base pl g F ((bst key N n.toNat R0).map fun a => (key a).i) e w' := by
  have c0 := h.c0
  have cg := h.cg
  have hp0 := h.lp
  have hg0 := h.gl
  have N1 := Lib.hid (new_any w 1)
  have S1 : Hid (Fs w (w.alloc HO) base pl g cap hp cnt w.heap.size F m M (fun j => j = w.heap.size) none (.slice none 0 0) []) := {
    ln := h.gr ((Ke.refl _ _).alloc _)
    tp := by
      rw [tpM_none]
      exact st_made w base hb
    row := rowI_nil _ _
    dt := fun j hj q => by have := (h.lt hj).2; omega
    dv := fun j hj => by simp [Value.ownBlock] at hj
    ke := (Ke.refl _ _).alloc _
    own := fun j q => by omega
    ov := fun j hj => by simp [Value.ownBlock] at hj }
  have HM := Lib.hid hm
  have HC := Lib.hid c
  have HD := Lib.hid hd
  have HB := Lib.hid hb
  have HN := Lib.hid hN
  clear h hm c hd hb hN
  go_enter Try.func25, Try.ntmps25
  go_wp2_with fail
  refine N1.out.mono ?_
  rintro e w1 ⟨rfl, hw⟩
  obtain rfl := hw
  clear N1
  have d0 := S1.out.ln.c0
  have hp1 := S1.out.ln.lp
  generalize hpt : w.heap.size = pt at *
  have HB2 : Hid (base ≤ w.heap.size) := by rw [hpt]; exact HB.out
  clear hpt HB
  generalize w.alloc HO = W1 at *
  clear c0 cg hp0 hg0
  go_wp2_with fail
  go_loopg [18] 1 (fun kx s18 wr => (kx = 1 ∧ s18 = .int .i64 0 ∧ wr = W1) ∨ (s18 = .int .i64 1 ∧ Aside (∃ Ft, Fs w wr base pl g cap hp cnt pt F m M Ft ((fstI key R0 N).map key) (.slice none 0 0) [])))
  case atStart => exact .inl ⟨rfl, rfl, rfl⟩
  case round =>
    rcases hrel with ⟨hk, rfl, rfl⟩ | ⟨rfl, D⟩
    · have cg := S1.out.ln.cg
      have hg1 := S1.out.ln.gl
      have C := Lib.hid (show_fs S1.out HM.out HC.out HD.out (fun j q => q))
      go_wp2_with fail
      refine C.out.mono ?_
      rintro e w2 ⟨rfl, Q⟩
      go_wp2_with fail
      go_roundg 0
      case measure => omega
      case rel => exact .inr ⟨rfl, Q⟩
    · clear S1
      obtain ⟨Ft, f0⟩ := D.out
      have F0 : Hid (FW w wr base pl g cap hp cnt pt F cl key N R0 n.toNat (.slice none 0 0) [] R0) := ⟨⟨m, M, Ft, f0, HM.out⟩, fun j q => q, Rch.start _ _ _, Nat.zero_le _, by have := cnB_le R0 N; simpa using this⟩
      clear f0 D HM
      go_wp2_with fail
      go_loopg [8] N (fun kx s8 wr' => ∃ L R v, s8 = v ∧ cnB R N ≤ kx ∧ Aside (FW w wr' base pl g cap hp cnt pt F cl key N R0 n.toNat v L R))
      case atStart => exact ⟨[], R0, _, rfl, cnB_le _ _, F0.out⟩
      case round =>
        obtain ⟨L, R, v, rfl, hk, HI⟩ := hrel
        obtain ⟨m, M, Ft, f, hm⟩ := HI.out.ex
        have HM := Lib.hid hm
        have hlk := HI.out.lk
        have hln := HI.out.ln
        obtain ⟨xa, ca, hv⟩ := rowI_form f.row
        rw [List.length_map] at hv
        obtain ⟨q, hq⟩ : ∃ q, q = L.length := ⟨_, rfl⟩
        rw [← hq] at hv hlk hln
        subst hv
        have HQ := Lib.hid hq
        have hq6 : q ≤ 65536 := by have := HN.out; omega
        clear F0 hm hq
        by_cases hlt : (q : Int) < n
        · cases e : fstI key R N with
          | none =>
            rw [e] at f
            have C := Lib.hid (pop_fs_none f)
            have DN : Hid (∀ W o', o' = none → Fs w W base pl g cap hp cnt pt F m M Ft o' (.slice xa q ca) (L.map fun a => (key a).i) → FirstP w base pl g F ((bst key N n.toNat R0).map fun a => (key a).i) (.returned (.slice xa q ca)) W) := fun W o' ho f' =>
              FW.done (k := n.toNat) (L := L) (R := R) (cap := cap) (hp := hp) (cnt := cnt) (pt := pt) (cl := cl) ⟨⟨m, M, Ft, by rw [e]; subst ho; exact f', HM.out⟩, HI.out.sub, HI.out.rch, HI.out.lk, HI.out.ln⟩ (.inr e)
            clear f HI hln
            go_wp2_with fail
            refine C.out.mono ?_
            rintro x w2 ⟨rfl, f2⟩
            have D2 := Lib.hid (DN.out _ none rfl (f2.gr ((Ke.refl _ _).alloc (.cells #[.int .i64 0, .int .i64 0, .int .i64 0, .int .i64 0] 32))))
            clear f2 DN C
            go_wp2
            go_ret
            exact D2.out
          | some a =>
            have e' := e
            obtain ⟨ha, hR⟩ := fstI_in e
            have hcut := cnB_cut ha hR
            rw [e] at f
            have C := Lib.hid (pop_fs_some (r := key a) f)
            have HE := Lib.hid e
            have HA := Lib.hid hR
            obtain ⟨r, hr⟩ : ∃ r, r = key a := ⟨_, rfl⟩
            rw [← hr] at C
            have HK := Lib.hid hr
            obtain ⟨vd, vb, vg, vi⟩ := r
            clear f e e' hr hR
            go_wp2_with fail
            refine C.out.mono ?_
            rintro x w2 ⟨rfl, f2⟩
            have f3 := f2.gr ((Ke.refl _ _).alloc (.cells #[.int .i64 vd, .int .i64 vb, .int .i64 vg, .int .i64 vi] 32))
            obtain ⟨v', w4, hr, f4⟩ := f3.app HB2.out (by rw [List.length_map, ← HQ.out]; omega) vi
            have hs2 : (w2.alloc (.cells #[.int .i64 vd, .int .i64 vb, .int .i64 vg, .int .i64 vi] 32)).heap.size = w2.heap.size + 1 := by simp
            rw [hs2] at hr
            have HR := Lib.hid (hr 37)
            have F4 := Lib.hid f4
            have q0 := f4.ln.c0
            have q1 := f4.ln.cg
            have C := Lib.hid (hpop_fs f4 HM.out HC.out HD.out HI.out.sub HE.out)
            clear hs2 f4
            clear f2 f3 hr
            go_wp2_with (at_builtin; refine Lib.wpList_append_run _ rfl _ _ 37 37 rfl _ _ rfl rfl _ _ HR.out ?_)
            refine C.out.mono ?_
            rintro x w5 ⟨⟨s5, rfl⟩, m5, M5, f5, hm5⟩
            have sub5 : ∀ j, upd R a false j = true → R0 j = true := fun j z => by
              unfold upd at z
              split at z
              · cases z
              · exact HI.out.sub j z
            have p0 := f5.ln.c0
            have p1 := f5.ln.cg
            have C5 := Lib.hid (show_fs f5 hm5 HC.out HD.out sub5)
            have FIN : Hid (∀ W Ft', Fs w W base pl g cap hp cnt pt F m5 M5 Ft' ((fstI key (upd R a false) N).map key) v' ((L.map fun a => (key a).i) ++ [vi]) → FW w W base pl g cap hp cnt pt F cl key N R0 n.toNat v' (L ++ [a]) (upd R a false)) := fun W Ft' f' => by
              have e1 : (L.map fun a => (key a).i) ++ [vi] = (L ++ [a]).map fun a => (key a).i := by
                rw [List.map_append, List.map_singleton, ← HK.out]
              rw [e1] at f'
              have hq := HQ.out
              exact ⟨⟨m5, M5, Ft', f', hm5⟩, sub5, HI.out.rch.step HE.out, by rw [List.length_append, List.length_singleton]; omega, by rw [List.length_append, List.length_singleton]; omega⟩
            clear f5 hm5 sub5 C F4 q0 q1
            generalize key a = ka at *
            obtain ⟨kd, kb, kg, ki⟩ := ka
            go_wp2_with fail
            refine C5.out.mono ?_
            rintro x w6 ⟨rfl, Ft6, f6⟩
            have F6 := Lib.hid (FIN.out _ _ f6)
            clear f6 FIN C5
            go_wp2_with fail
            go_roundg (cnB (upd R a false) N)
            case measure => omega
            case rel => exact ⟨_, _, _, rfl, Nat.le_refl _, F6.out⟩
        · have D := Lib.hid (HI.out.done (.inl (show L.length = n.toNat by have := HQ.out; omega)))
          clear f HM HI
          go_wp2
          go_ret
          exact D.out
end
end Go.Proofs.Ytkapejgokcpbiaa
