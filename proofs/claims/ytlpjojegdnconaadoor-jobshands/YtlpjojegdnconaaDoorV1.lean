/- Jobs in a law: the blocks that lay ahead of the call are as they were; the law's comparing of rows; its first sentence (awake). -/
import Derived.Test.YtlpjojegdnconaaDoorU4
import Derived.Deep.QuietTactic
namespace Go.Proofs.YtlpjojegdnconaaDoor
open Go.RowKit Go.Lib Go.Maps
open Ca (Ke Gr Sv Row Cl Ky Bs blk_other)
set_option linter.unusedVariables false
set_option maxRecDepth 100000
set_option maxHeartbeats 4000000

/-- Jobs at p in a call that began in w0. -/
structure JW (w0 w : World) (p n c : Nat) (F : Nat → Prop) (S : List Tk) : Prop where
  jb : Jb w w0.heap.size p n c F S
  gr : Gr w0 w
  tab : Tab w0
/-- What a call leaves. -/
def LJ (w0 w : World) (p n c : Nat) (F : Nat → Prop) (S : List Tk) (w' : World) : Prop := ∃ F', JW w0 w' p n c F' S ∧ Sv F F' w w'
theorem gr_sv {w0 w w' : World} {F F' : Nat → Prop} (g : Gr w0 w) (s : Sv F F' w w') (hF : ∀ k, F k → w0.heap.size ≤ k) : Gr w0 w' :=
  ⟨s.ke.os.trans g.os, s.ke.tape.trans g.tape, s.ke.output.trans g.output, Nat.le_trans g.size s.ke.size, fun k hk hn => (s.ke.block k (Nat.lt_of_lt_of_le hk g.size) (fun q => by have := hF k q; omega)).trans (g.block k hk hn)⟩
section
variable {w0 w w' : World} {p n c c' : Nat} {F F' : Nat → Prop} {S S' : List Tk}
theorem JW.low (h : JW w0 w p n c F S) (k : Nat) (hk : F k) : w0.heap.size ≤ k := (h.jb.lt hk).1
theorem JW.gro (h : JW w0 w p n c F S) (g : Gr w w') : JW w0 w' p n c F S := ⟨h.jb.gr g, h.gr.trans g, h.tab⟩
theorem JW.ke {G : Nat → Prop} (h : JW w0 w p n c F S) (k : Ke G w w') (hG : ∀ j, F j → ¬ G j) (hl : ∀ j, G j → w0.heap.size ≤ j) : JW w0 w' p n c F S :=
  ⟨h.jb.ke k hG, ⟨k.os.trans h.gr.os, k.tape.trans h.gr.tape, k.output.trans h.gr.output, Nat.le_trans h.gr.size k.size, fun j hj hn => (k.block j (Nat.lt_of_lt_of_le hj h.gr.size) (fun q => by have := hl j q; omega)).trans (h.gr.block j hj hn)⟩, h.tab⟩
theorem JW.tabw (h : JW w0 w p n c F S) : Tab w := fun j hj => Ca.gcell h.gr (h.tab j hj)
theorem JW.next (h : JW w0 w p n c F S) (b : Jb w' w0.heap.size p n c' F' S') (s : Sv F F' w w') : JW w0 w' p n c' F' S' := ⟨b, gr_sv h.gr s h.low, h.tab⟩
theorem JW.lj (h : JW w0 w p n c F S) (q : JQ w w0.heap.size p n c' F S' w') : LJ w0 w p n c' F S' w' := by
  obtain ⟨F', b, s⟩ := q
  exact ⟨F', h.next b s, s⟩
def NewL (w0 w : World) (m : Nat) (e : Ending) (w' : World) : Prop := ∃ p F, e = .returned (.pointer (some ⟨p, 0, none⟩)) ∧ JW w0 w' p m 0 F [] ∧ Gr w w' ∧ ∀ k, F k → w.heap.size ≤ k
theorem jw_new (hT : Tab w0) (g : Gr w0 w) (x : Int) (m : Nat) (hm : m ≤ 4096) (hlo : (if x < 0 then 0 else x) = (m : Int)) : Calls Tryd.prog 9 #[.int .i64 x] w fun e w' => NewL w0 w m e w' := by
  refine (new_jb x m w w0.heap.size g.size hm hlo).mono ?_
  rintro e w' ⟨p, F, rfl, h1, h2, h3⟩
  exact ⟨p, F, rfl, ⟨h1, g.trans h2, hT⟩, h2, h3⟩
theorem jw_join (h : JW w0 w p n c F S) (id e pp : Int) (sp : Bool) (hi : (Lit.int .i64 id).wf = true) : Calls Tryd.prog 10 #[.pointer (some ⟨p, 0, none⟩), .int .i64 id, .int .i64 e, .int .i64 pp, .bool sp] w fun x w' => x = .returned (.int .i64 (joE S n id e pp)) ∧ LJ w0 w p n c F (joS S n id e pp sp) w' := by
  refine (join_jb h.jb h.gr.size h.tabw id e pp sp hi).mono ?_
  rintro x w' ⟨rfl, q⟩
  exact ⟨rfl, h.lj q⟩
theorem jw_leave (h : JW w0 w p n c F S) (i : Int) (hi : (Lit.int .i64 i).wf = true) : Calls Tryd.prog 12 #[.pointer (some ⟨p, 0, none⟩), .int .i64 i] w fun e w' => e = .returned (.tuple #[.bool (lvB S i), .int .i64 (lvE S i)]) ∧ LJ w0 w p n c F (lvS S i) w' := by
  refine (leave_jb h.jb i hi).mono ?_
  rintro x w' ⟨rfl, q⟩
  exact ⟨rfl, h.lj q⟩
theorem jw_arrive (h : JW w0 w p n c F S) (i : Int) (hi : (Lit.int .i64 i).wf = true) : Calls Tryd.prog 14 #[.pointer (some ⟨p, 0, none⟩), .int .i64 i] w fun e w' => e = .returned (.int .i64 (arE S i)) ∧ LJ w0 w p n c F (arS S i) w' := by
  refine (arrive_jb h.jb i hi).mono ?_
  rintro x w' ⟨rfl, q⟩
  exact ⟨rfl, h.lj q⟩
theorem jw_finish (h : JW w0 w p n c F S) (i : Int) (hi : (Lit.int .i64 i).wf = true) : Calls Tryd.prog 16 #[.pointer (some ⟨p, 0, none⟩), .int .i64 i] w fun e w' => e = .returned (.int .i64 (fiE S i)) ∧ LJ w0 w p n c F (fiS S i) w' := by
  refine (finish_jb h.jb i hi).mono ?_
  rintro x w' ⟨rfl, q⟩
  exact ⟨rfl, h.lj q⟩
theorem jw_give (h : JW w0 w p n c F S) (i : Int) (hi : (Lit.int .i64 i).wf = true) : Calls Tryd.prog 24 #[.pointer (some ⟨p, 0, none⟩), .int .i64 i] w fun e w' => e = .returned (.bool (gvB S i)) ∧ LJ w0 w p n c F (gvS S i) w' := by
  refine (give_jb h.jb i hi).mono ?_
  rintro x w' ⟨rfl, q⟩
  exact ⟨rfl, h.lj q⟩
theorem jw_task (h : JW w0 w p n c F S) (i : Int) (hi : (Lit.int .i64 i).wf = true) : Calls Tryd.prog 25 #[.pointer (some ⟨p, 0, none⟩), .int .i64 i] w fun e w' => TkQ w S i e w' := task_jb h.jb i hi
/-- What Release leaves. -/
def RelL (w0 w : World) (p n c : Nat) (F : Nat → Prop) (S : List Tk) (l : List Int) (u : Value) (w' : World) : Prop := ∃ F', RowI w' w.heap.size u l ∧ JW w0 w' p n c F' S ∧ Sv F F' w w' ∧ ∀ j, u.ownBlock = some j → ¬ F' j
theorem jw_release (h : JW w0 w p n c F S) {t : Int} (h0 : 0 ≤ t) (ht : t ≤ 1000000000000) (hc : c + n ≤ 65535) : Calls Tryd.prog 19 #[.pointer (some ⟨p, 0, none⟩), .int .i64 t] w fun e w' => ∃ u, e = .returned u ∧ RelL w0 w p n (c + (relI S).length) F (relT t S) (relI S) u w' := by
  refine (release_jb h.jb h0 ht hc).mono ?_
  rintro x w' ⟨u, F', rfl, r, b, s, nf⟩
  exact ⟨u, rfl, F', r, h.next b s, s, nf⟩
theorem jw_settle (h : JW w0 w p n c F S) (t : Int) : Calls Tryd.prog 21 #[.pointer (some ⟨p, 0, none⟩), .int .i64 t] w fun e w' => ∃ u, e = .returned (.tuple #[u, .int .i64 (stlN t S : Nat)]) ∧ RelL w0 w p n c F (stlT t S) (stlI t S) u w' := by
  refine (settle_jb h.jb h.gr.size t).mono ?_
  rintro x w' ⟨u, F', rfl, r, b, s, nf⟩
  exact ⟨u, rfl, F', r, h.next b s, s, nf⟩
end

/-! ### ints -/
theorem rowI_lit (w : World) (l : List Int) (cs : Array Value) (hcs : cs = (l.map (Value.int .i64)).toArray) (hl : l.length ≤ 1000) : RowI (w.alloc (.cells cs 3)) w.heap.size (.slice (some ⟨w.heap.size, 0, none⟩) l.length l.length) l := by
  have blk : (w.alloc (.cells cs 3)).heap[w.heap.size]? = some (.cells cs 3 (0, 0)) := heap_alloc_new w _
  refine rowI_of ⟨by simp, .inr ⟨w.heap.size, l.length, cs, rfl, Nat.le_refl _, blk, Nat.le_refl _, by unfold maxLen; omega, by rw [hcs]; simp, by rw [hcs]; simp [List.take_of_length_le]⟩⟩
theorem rowI_keep {w w' : World} {base : Nat} {v : Value} {l : List Int} {F : Nat → Prop} (h : RowI w base v l) (k : Ke F w w') (hF : ∀ j, v.ownBlock = some j → ¬ F j) : RowI w' base v l := Row.keep h (fun j hj => k.block j (Row.lt h hj).2 (hF j hj))
theorem rowI_gr {w w' : World} {base : Nat} {v : Value} {l : List Int} (h : RowI w base v l) (k : Gr w w') : RowI w' base v l := rowI_keep h k (fun _ _ z => z)
theorem rowI_form {w : World} {base : Nat} {v : Value} {l : List Int} (h : RowI w base v l) : ∃ xa ca, v = .slice xa l.length ca := by
  rcases Row.shape h with ⟨rfl, h0⟩ | ⟨g, cap, rfl, _⟩
  · exact ⟨none, 0, by rw [h0]⟩
  · exact ⟨_, _, rfl⟩
theorem ints_any {w : World} {ba bb : Nat} {va vb : Value} {la lb : List Int} (ha : RowI w ba va la) (hb : RowI w bb vb lb) :
    Calls Tryd.prog 18 #[va, vb] w fun e w' => e = .returned (.bool (decide (la = lb))) ∧ Gr w w' := by
  by_cases hl : la.length = lb.length
  · by_cases h0 : la.length = 0
    · obtain ⟨xa, ca, rfl⟩ := rowI_form ha
      obtain ⟨xb, cb, rfl⟩ := rowI_form hb
      rw [← hl, h0]
      have e1 : la = [] := List.length_eq_zero_iff.1 h0
      have e2 : lb = [] := List.length_eq_zero_iff.1 (hl.symm.trans h0)
      subst e1 e2
      clear ha hb hl h0
      go_enter Tryd.func18, Tryd.ntmps18
      go_wp2_with fail
      go_loopg [5] 0 (fun kx s5 wr => s5 = .int .i64 0 ∧ wr = w)
      case atStart => exact ⟨rfl, rfl⟩
      case round =>
        obtain ⟨rfl, rfl⟩ := hrel
        go_wp2
        go_ret
        exact ⟨rfl, Ke.refl _ _⟩
    · obtain ⟨ga, ca, rfl, _, _, hca, hcm⟩ := Row.form ha (by omega)
      have hNm : la.length ≤ 9223372036854775807 := by unfold maxLen at hcm; omega
      clear hca hcm
      obtain ⟨gb, cb, rfl, _⟩ := Row.form hb (by omega)
      have cella := fun j hj => Row.cell ha j hj
      have cellb := fun j hj => Row.cell hb j hj
      rw [← hl] at cellb ⊢
      obtain ⟨N, hN⟩ : ∃ N, N = la.length := ⟨_, rfl⟩
      rw [← hN] at cella cellb hNm ⊢
      have CA := Lib.hid cella
      have CB := Lib.hid cellb
      have HN := Lib.hid hN
      have HL := Lib.hid hl
      clear cella cellb ha hb hl h0 hN
      go_enter Tryd.func18, Tryd.ntmps18
      go_wp2_with fail
      go_loopg [5] N (fun kx s5 wr => ∃ k : Nat, s5 = .int .i64 k ∧ k ≤ N ∧ N - k ≤ kx ∧ Aside ((∀ j, j < k → la.getD j 0 = lb.getD j 0) ∧ Gr w wr))
      case atStart => exact ⟨0, rfl, by omega, by omega, fun j hj => by omega, Ke.refl _ _⟩
      case round =>
        obtain ⟨k, rfl, hk, hkx, HI⟩ := hrel
        by_cases hlt : k < N
        · have hltz : (k : Int) < (N : Int) := by omega
          have ka := Ca.gcell HI.out.2 (CA.out k (by omega))
          have kb := Ca.gcell HI.out.2 (CB.out k (by omega))
          unfold iR at ka kb
          obtain ⟨xa, hxa⟩ : ∃ x, la.getD k 0 = x := ⟨_, rfl⟩
          obtain ⟨xb, hxb⟩ : ∃ x, lb.getD k 0 = x := ⟨_, rfl⟩
          rw [hxa] at ka
          rw [hxb] at kb
          have XA := Lib.hid hxa
          have XB := Lib.hid hxb
          clear hxa hxb
          by_cases hx : xa = xb
          · have d : (xa != xb) = false := by simp [hx]
            have HX := Lib.hid hx
            clear hx
            go_wp2_with fail
            go_quiet (fail)
            go_wp2_with fail
            go_roundg (N - (k + 1))
            case measure => omega
            case rel => exact ⟨k + 1, by go_num, by omega, Nat.le_refl _, fun j hj => by
              by_cases e : j = k
              · subst e; rw [XA.out, XB.out, HX.out]
              · exact HI.out.1 j (by omega), HI.out.2.trans ((Ke.refl _ _).drewN _)⟩
          · have d : (xa != xb) = true := by simp [hx]
            have HX := Lib.hid hx
            clear hx
            go_wp2_with fail
            go_quiet (fail)
            go_wp2_with fail
            go_ret
            refine ⟨?_, HI.out.2.trans ((Ke.refl _ _).drewN _)⟩
            rw [decide_eq_false (fun e => HX.out (by rw [← XA.out, ← XB.out, e]))]
            rfl
        · have hltz : ¬ (k : Int) < (N : Int) := by omega
          obtain rfl : N = k := by omega
          go_wp2
          go_ret
          refine ⟨?_, HI.out.2⟩
          rw [decide_eq_true (List.ext_getElem HL.out (fun j h1 h2 => by
            have := HI.out.1 j (by rw [HN.out]; exact h1)
            simpa [List.getD_eq_getElem?_getD, List.getElem?_eq_getElem h1, List.getElem?_eq_getElem h2] using this))]
          rfl
  · obtain ⟨xa, ca, rfl⟩ := rowI_form ha
    obtain ⟨xb, cb, rfl⟩ := rowI_form hb
    have d : ((la.length : Int) != (lb.length : Int)) = true := by simp; omega
    have E : decide (la = lb) = false := decide_eq_false (fun e => hl (by rw [e]))
    rw [E]
    clear ha hb hl E
    generalize la.length = x at *
    generalize lb.length = y at *
    go_enter Tryd.func18, Tryd.ntmps18
    go_wp2
    go_ret
    exact ⟨rfl, Ke.refl _ _⟩
end Go.Proofs.YtlpjojegdnconaaDoor
