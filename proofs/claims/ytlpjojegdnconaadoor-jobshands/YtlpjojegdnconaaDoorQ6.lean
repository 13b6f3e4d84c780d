/- Jobs: contract of Join by the list of tasks. -/
import Derived.Test.YtlpjojegdnconaaDoorQ5
namespace Go.Proofs.YtlpjojegdnconaaDoor
open Go.RowKit Go.Lib Go.Maps
open Ca (Ke Gr Sv Row Cl Ky Bs blk_other)
set_option linter.unusedVariables false
set_option maxRecDepth 100000
set_option maxHeartbeats 2000000

def joE (S : List Tk) (n : Nat) (id e p : Int) : Int := if canT e p = false then 2 else if (getT S id).isSome = true then 4 else if n ≤ S.length then 6 else 0
def joS (S : List Tk) (n : Nat) (id e p : Int) (sp : Bool) : List Tk := if joE S n id e p = 0 then insT (newT id e p sp) S else S

/-! ### plain -/
theorem Sl.length {c : Nat} {S : List Tk} {A : Nat → Option Int} {T : Nat → Tk} (h : Sl S A T) (a : At c A T) {n : Nat} (ho : ∀ s, n ≤ s → A s = none) : S.length = cnt A n := by
  have hp : (S.map Tk.id).Perm (idsOf A n) := (List.perm_ext_iff_of_nodup (lt_nodup h.srt.ids) (nodup_idsOf a.inj n)).2 (fun x => by
    rw [mem_idsOf ho, List.mem_map]
    constructor
    · rintro ⟨y, hy, rfl⟩
      obtain ⟨s, hs, _⟩ := (h.mem y).1 hy
      exact ⟨s, hs⟩
    · rintro ⟨s, hs⟩
      exact ⟨T s, h.at_ a hs, a.id s x hs⟩)
  have := hp.length_eq
  rw [List.length_map, idsOf_length] at this
  exact this
theorem least_free {A : Nat → Option Int} : ∀ n, cnt A n < n → ∃ m, m < n ∧ A m = none ∧ ∀ s, s < m → A s ≠ none
  | 0, h => by omega
  | n + 1, h => by
    by_cases q : cnt A n < n
    · obtain ⟨m, h1, h2, h3⟩ := least_free n q
      exact ⟨m, by omega, h2, h3⟩
    · have h1 := cnt_le A n
      have h2 : cnt A n = n := by omega
      unfold cnt at h
      have h4 : A n = none := by
        cases e : A n with
        | none => rfl
        | some x => rw [e] at h; simp at h; omega
      refine ⟨n, by omega, h4, fun s hs hn => ?_⟩
      have : cnt A n < n := by
        have := cnt_put (A := A) (m := s) (x := 0) hn n hs
        have := cnt_le (upd A s (some 0)) n
        omega
      omega
theorem full_all {A : Nat → Option Int} {n : Nat} (h : n ≤ cnt A n) : ∀ s, s < n → A s ≠ none := fun s hs hn => by
  have := cnt_put (A := A) (m := s) (x := 0) hn n hs
  have := cnt_le (upd A s (some 0)) n
  omega
theorem upd_upd {α : Type} (f : Nat → α) (k : Nat) (x y : α) : upd (upd f k x) k y = upd f k y := by
  funext s
  unfold upd
  split <;> rfl

/-! ### memory -/
theorem info49 : ∃ i, Tryd.prog.info? 49 = some i ∧ i.size = 11 ∧ i.bytes = 64 ∧ i.zero = some (.agg #[.int .i64 0, .int .i64 0, .int .i64 0, .bool false, .bool false, .bool false, .bool false, .int .i64 0, .int .i64 0, .bool false, .int .i64 0]) := by
  have h1 : (Tryd.prog.info? 49).map (·.size) = some 11 := by kernel_rfl
  have h2 : (Tryd.prog.info? 49).map (·.bytes) = some 64 := by kernel_rfl
  have h3 : (Tryd.prog.info? 49).map (·.zero) = some (some (.agg #[.int .i64 0, .int .i64 0, .int .i64 0, .bool false, .bool false, .bool false, .bool false, .int .i64 0, .int .i64 0, .bool false, .int .i64 0])) := by kernel_rfl
  cases h : Tryd.prog.info? 49 with
  | none => rw [h] at h1; cases h1
  | some i =>
    rw [h] at h1 h2 h3
    exact ⟨i, rfl, by simpa using h1, by simpa using h2, by simpa using h3⟩
abbrev zTO : Obj := .cells #[.int .i64 0, .int .i64 0, .int .i64 0, .bool false, .bool false, .bool false, .bool false, .int .i64 0, .int .i64 0, .bool false, .int .i64 0] 49
abbrev zTL : List Value := [.int .i64 0, .int .i64 0, .int .i64 0, .bool false, .bool false, .bool false, .bool false, .int .i64 0, .int .i64 0, .bool false, .int .i64 0]
/-- One task more. -/
theorem tasks_more (w : World) (base : Nat) (v : Value) (m : Nat) (T : Nat → Tk) (h : Row w base 49 11 v m (tc T)) (hb : base ≤ w.heap.size) (hm : m ≤ 4096) :
    ∃ v' w1, (Builtin.append_ #[71, 71] 71 #[v, .slice (some ⟨w.heap.size, 0, none⟩) 1 1]).run Tryd.prog (w.alloc zTO) = .ok v' w1 ∧ (w.alloc zTO).grownBy w1 v.ownBlock ∧ Row w1 base 49 11 v' (m + 1) (tc (upd T m zeroT)) ∧ (v'.ownBlock = v.ownBlock ∨ v'.ownBlock = some (w.heap.size + 1)) := by
  obtain ⟨i, hi, h1, h2, h3⟩ := info49
  have h' : Row (w.alloc zTO) base 49 11 v m (tc T) := h.keep (fun g hg => Below.heap_alloc w _ g (h.lt hg).2)
  have blk : (w.alloc zTO).heap[w.heap.size]? = some (.cells zTL.toArray 49 (0, 0)) := heap_alloc_new w _
  obtain ⟨v', w1, hr, ho, hg, ha⟩ := Ca.append_own_at (P := Tryd.prog) (w.alloc zTO) base 71 71 49 i _ 11 64 Tryd.underlying71 hi h3 h1 h2 rfl (by omega) v m _ h' ⟨w.heap.size, 0, none⟩ 1 1 zTL (by omega) rfl (fun j x hj => by
    rw [Addr.add_mid, Nat.zero_add]
    simp only [World.cell?, blk]
    simpa using hj) (by simp [Value.oneCell']) (by unfold maxLen; omega) (by omega) (by simp; omega)
  refine ⟨v', w1, hr, hg, ?_, by simpa using ha⟩
  unfold Ca.Row
  rw [show (List.range ((m + 1) * 11)).map (tc (upd T m zeroT)) = (List.range (m * 11)).map (tc T) ++ zTL from ?_]
  · exact ho
  · refine List.ext_getElem (by simp; omega) fun j h1 h2 => ?_
    have hj : j < (m + 1) * 11 := by simpa using h1
    rw [List.getElem_append]
    simp only [List.getElem_map, List.getElem_range, List.length_map, List.length_range]
    split
    · next q =>
      unfold tc
      rw [upd_other _ _ (by omega)]
    · next q =>
      obtain ⟨o, ho'⟩ : ∃ o, j = m * 11 + o := ⟨j - m * 11, by omega⟩
      subst ho'
      have ho11 : o < 11 := by omega
      rw [tc_at _ m o ho11, upd_same]
      simp only [Nat.add_sub_cancel_left]
      rcases (show o = 0 ∨ o = 1 ∨ o = 2 ∨ o = 3 ∨ o = 4 ∨ o = 5 ∨ o = 6 ∨ o = 7 ∨ o = 8 ∨ o = 9 ∨ o = 10 by omega) with rfl | rfl | rfl | rfl | rfl | rfl | rfl | rfl | rfl | rfl | rfl <;> rfl
section
variable {w w1 : World} {base p n c g bm : Nat} {v v' : Value} {m : Nat} {A A' : Nat → Option Int} {T T' : Nat → Tk} {D D' : DataW Unit} {Fc : Nat → Prop} {L : List Ky} {q cap : Nat} {S : List Tk} {F : Nat → Prop}
/-- The table has one id more, the row one task more. -/
theorem Jx.join (h : Jx w base p n c g bm v m A T D Fc L) (k : Kept3 p g bm w w1) (r : Rep w1 p g bm n A' D') (hmn : m + 1 ≤ n) (ht : ∀ s, A' s ≠ none → s < m + 1) {W w2 : World} (gW : Gr w1 W) (g1 : W.grownBy w2 v.ownBlock) (ro : Row w2 base 49 11 v' (m + 1) (tc T')) (a : v'.ownBlock = v.ownBlock ∨ v'.ownBlock = some W.heap.size) :
    Jx (w2.setCell ⟨p, 67, none⟩ v') base p n c g bm v' (m + 1) A' T' D' Fc L ∧ Sv (FJ g bm v Fc) (FJ g bm v' Fc) w (w2.setCell ⟨p, 67, none⟩ v') ∧ w2.cell? ⟨p, 67, none⟩ = some v ∧ w2.frozen? ⟨p, 67, none⟩ = false := by
  have hs1 := k.size
  have hsW := gW.size
  have hs2 := g1.size
  have hvp : v.ownBlock ≠ some p := h.vp
  have ep : w2.heap[p]? = w1.heap[p]? := (g1.block p (by have := r.pl; omega) (Ca.own_ne hvp)).trans (gW.block p r.pl (fun z => z))
  have eg : w2.heap[g]? = w1.heap[g]? := (g1.block g (by have := r.gl; omega) (Ca.own_ne h.vg)).trans (gW.block g r.gl (fun z => z))
  have em : w2.heap[bm]? = w1.heap[bm]? := (g1.block bm (by have := r.ml; omega) (Ca.own_ne h.vm)).trans (gW.block bm r.ml (fun z => z))
  have c67 : w2.cell? ⟨p, 67, none⟩ = some v := (World.cell?_of_block (a := ⟨p, 67, none⟩) ep).trans ((k.hi 67 (by omega)).trans h.c67)
  have fz : ∀ o, w2.frozen? ⟨p, o, none⟩ = false := fun o => (World.frozen?_of_block (a := ⟨p, o, none⟩) ep).trans (r.fz o)
  have hnew : ∀ {j}, j < w.heap.size → v'.ownBlock = some j → v.ownBlock = some j := fun {j} hj hv => by
    rcases a with a | a
    · rw [← a]; exact hv
    · rw [a] at hv; cases hv; omega
  have vp' : v'.ownBlock ≠ some p := fun e => hvp (hnew h.pl e)
  have K0 : Ke (fun j => (j = p ∨ j = g ∨ j = bm) ∨ v.ownBlock = some j) w w2 := (((kept3_ke k).mono (fun _ _ z => .inl z)).trans (Ca.Ke.of_gr gW)).grown g1 (fun j e => .inl (.inr e))
  have K := K0.set (p := ⟨p, 67, none⟩) (.inl (.inl (.inl rfl))) v'
  refine ⟨?_, ⟨K.mono (fun j _ z => ?_), fun j z => ?_⟩, c67, fz 67⟩
  · exact {
      bg := h.bg, bb := h.bb
      rep := r.low (by simp [World.setCell]; omega) (fun o ho => (World.cell?_setCell_other w2 _ _ _ (fun z => by cases z; omega)).trans (World.cell?_of_block (a := ⟨p, o, none⟩) ep)) (fun o => by simpa using fz o) ((blk_other _ _ _ _ _ (Ne.symm r.pg)).trans eg) ((blk_other _ _ _ _ _ (Ne.symm r.pm)).trans em)
      c67 := World.cell?_setCell_same w2 _ _ c67
      row := ro.keep (fun j hj => blk_other _ _ _ _ _ (fun e => vp' (by rw [hj, e])))
      cl := h.cl.low K (fun j z y => by
        rcases y with (y | y | y) | y
        · exact y
        · exact absurd (by rw [← y]; exact z) h.fg
        · exact absurd (by rw [← y]; exact z) h.fm
        · exact absurd z (h.fv j y)) (fun o ho => (World.cell?_setCell_other w2 _ _ _ (fun z => by cases z; omega)).trans ((World.cell?_of_block (a := ⟨p, o, none⟩) ep).trans (k.hi o (by omega)))) (fun o => by simpa using fz o)
      mn := hmn, tk := ht, vp := vp'
      vg := fun e => h.vg (hnew h.rep.gl e)
      vm := fun e => h.vm (hnew h.rep.ml e)
      fv := fun j hj z => h.fv j (hnew (h.cl.lt z).2 hj) z
      fg := h.fg, fm := h.fm }
  · rcases z with (z | z | z) | z
    · rw [z]; exact .inr (.inr (.inr h.self))
    · exact .inl z
    · exact .inr (.inl z)
    · exact .inr (.inr (.inl z))
  · rcases z with z | z | z | z
    · exact .inl (.inl z)
    · exact .inl (.inr (.inl z))
    · rcases a with a | a
      · exact .inl (.inr (.inr (.inl (by rw [← a]; exact z))))
      · rw [a] at z; cases z; exact .inr (by omega)
    · exact .inl (.inr (.inr (.inr z)))

/-- What put leaves of the place m0. -/
theorem join_no (h : Jb w base p n c F S) (id e pp : Int) (sp : Bool) (hi : (Lit.int .i64 id).wf = true) (hz : joE S n id e pp ≠ 0) :
    Calls Tryd.prog 10 #[.pointer (some ⟨p, 0, none⟩), .int .i64 id, .int .i64 e, .int .i64 pp, .bool sp] w fun x w' => x = .returned (.int .i64 (joE S n id e pp)) ∧ JQ w base p n c F (joS S n id e pp sp) w' := by
  have H0 := Lib.hid h
  obtain ⟨g, bm, v, m, A, T, D, Fc, L, hx, a, sl, lk, rfl⟩ := h.ex
  clear h
  have R0 : Hid (JQ w base p n c (FJ g bm v Fc) (joS S n id e pp sp) w) := by
    unfold joS
    rw [if_neg hz]
    exact jq_same H0.out
  have CM := Lib.hid (may_any e pp w)
  unfold joE at hz ⊢
  cases hc : canT e pp with
  | false =>
    rw [hc] at CM
    clear hx a sl lk hz hc
    simp only [if_true]
    go_enter Tryd.func10, Tryd.ntmps10
    go_wp2_with fail
    refine CM.out.mono ?_
    rintro x w1 ⟨rfl, hw⟩
    obtain rfl := hw.symm
    clear hw CM
    go_wp2_with fail
    go_ret
    exact ⟨rfl, R0.out⟩
  | true =>
    rw [hc] at CM hz
    simp only [Bool.true_eq_false, if_false] at hz ⊢
    cases hg : getT S id with
    | some x =>
      obtain ⟨s, hs, hT⟩ := sl.back hg
      have CP := Lib.hid (put_there p g bm n A D w hx.rep id hi s hs)
      clear hx a sl lk hz hc hs hT hg
      simp only [Option.isSome_some, if_true]
      go_enter Tryd.func10, Tryd.ntmps10
      go_wp2_with fail
      refine CM.out.mono ?_
      rintro x w1 ⟨rfl, hw⟩
      obtain rfl := hw.symm
      clear hw CM
      go_wp2_with fail
      refine CP.out.mono ?_
      rintro x w1 ⟨rfl, hw⟩
      obtain rfl := hw.symm
      clear hw CP
      go_wp2_with fail
      go_ret
      exact ⟨rfl, R0.out⟩
    | none =>
      have hn := sl.not_at a hg
      have hl := sl.length a hx.rep.out
      rw [hg] at hz
      simp only [Option.isSome_none, Bool.false_eq_true, if_false] at hz ⊢
      have hf : n ≤ S.length := by
        by_cases q : n ≤ S.length
        · exact q
        · rw [if_neg q] at hz; exact absurd rfl hz
      have CP := Lib.hid (put_full p g bm n A D w hx.rep id hi hn (full_all (by omega)))
      rw [if_pos hf]
      clear hx a sl lk hz hc hg hn hl hf
      go_enter Tryd.func10, Tryd.ntmps10
      go_wp2_with fail
      refine CM.out.mono ?_
      rintro x w1 ⟨rfl, hw⟩
      obtain rfl := hw.symm
      clear hw CM
      go_wp2_with fail
      refine CP.out.mono ?_
      rintro x w1 ⟨rfl, hw⟩
      obtain rfl := hw.symm
      clear hw CP
      go_wp2_with fail
      go_ret
      exact ⟨rfl, R0.out⟩

/-- The store behind Put, and the new task's place in the list. -/
structure Jn (w : World) (base p n c : Nat) (F : Nat → Prop) (S : List Tk) (q m m0 cap : Nat) (x : Tk) (W : World) : Prop where
  c67 : W.cell? ⟨p, 67, none⟩ = some (.slice (some ⟨q, 0, none⟩) m cap)
  lt : m0 < m
  m4 : m ≤ 4096
  cells : ∀ o, o < 11 → (W.cell? ⟨q, m0 * 11 + o, none⟩).isSome = true
  fz : ∀ o, W.frozen? ⟨q, o, none⟩ = false
  fin : JQ w base p n c F (insT x S) (put11 W q (m0 * 11) x)
theorem jn_of {W : World} {m0 : Nat} {x : Tk} {v0 : Value} {T0 : Nat → Tk} (h : Jx W base p n c g bm (.slice (some ⟨q, 0, none⟩) m cap) m (upd A m0 (some x.id)) T0 D Fc L) (sv : Sv (FJ g bm v0 Fc) (FJ g bm (.slice (some ⟨q, 0, none⟩) m cap) Fc) w W) (a : At c A T) (sl : Sl S A T) (lk : Lk A T L) (hA : A m0 = none) (hn : ∀ t, A t ≠ some x.id) (ok : OkT c x) (hac : x.ac = false) (hT : upd T0 m0 x = upd T m0 x) :
    Jn w base p n c (FJ g bm v0 Fc) S q m m0 cap x W := by
  obtain ⟨h1, k1⟩ := h.put m0 x
  rw [hT] at h1
  have hlt := h.tk m0 (by rw [upd_same]; simp)
  have b1 := jb_of h1 (a.ins hA hn ok) (sl.ins hA hn) (lk.ins hA hac)
  have s1 : Sv (FJ g bm (.slice (some ⟨q, 0, none⟩) m cap) Fc) (FJ g bm (.slice (some ⟨q, 0, none⟩) m cap) Fc) W (put11 W q (m0 * 11) x) := ⟨k1, fun _ z => .inl z⟩
  have hq := h.rep.n4
  have hm := h.mn
  exact ⟨h.c67, hlt, by omega, fun o ho => by rw [h.cell hlt ho]; rfl, h.frozen, ⟨_, b1, sv.trans s1⟩⟩
end
end Go.Proofs.YtlpjojegdnconaaDoor
