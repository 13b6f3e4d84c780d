/- The heap: contract of add, walked. -/
import Derived.Test.YtlpjojegdnconaaDoorK6
namespace Go.Proofs.YtlpjojegdnconaaDoor.Ca
open Go.RowKit Go.Lib
set_option linter.unusedVariables false
set_option maxRecDepth 100000

theorem Ke.comp {F G : Nat → Prop} {a b c : World} (h : Ke F a b) (k : Ke G b c) (hG : ∀ j, j < a.heap.size → G j → F j) : Ke F a c :=
  ⟨k.os.trans h.os, k.tape.trans h.tape, k.output.trans h.output, Nat.le_trans h.size k.size, fun j hj hn => (k.block j (Nat.lt_of_lt_of_le hj h.size) (fun q => hn (hG j hj q))).trans (h.block j hj hn)⟩
/-- The tree, one entry more: what the walk wants. -/
theorem tree_tail {W : World} {base p : Nat} {k : Int} {v u : Value} {n : Nat} {T : Nat → En} {L : Nat} {S : Nat → Nat} (h : Mem W base p k v u n T L S) (hn : n + 1 ≤ 65536) {B : Nat} (hB : B = W.heap.size) :
    ∃ g cap w1, (Builtin.append_ #[135, 135] 135 #[v, .slice (some ⟨B, 0, none⟩) 1 1]).run Tryd.prog (W.alloc (.cells #[.int .i64 0, .int .i64 0, .int .i64 0, .int .i64 0, .int .i64 0] 128)) = .ok (.slice (some ⟨g, 0, none⟩) (n + 1) cap) w1 ∧
      w1.cell? ⟨p, 1, none⟩ = some v ∧ w1.frozen? ⟨p, 1, none⟩ = false ∧ Hid (Mem (w1.setCell ⟨p, 1, none⟩ (.slice (some ⟨g, 0, none⟩) (n + 1) cap)) base p k (.slice (some ⟨g, 0, none⟩) (n + 1) cap) u (n + 1) (upd T n ⟨0, 0, 0, 0, 0⟩) L S ∧
        Ke (Foot p v u) W (w1.setCell ⟨p, 1, none⟩ (.slice (some ⟨g, 0, none⟩) (n + 1) cap)) ∧ ∀ x, Foot p (.slice (some ⟨g, 0, none⟩) (n + 1) cap) u x → Foot p v u x ∨ W.heap.size ≤ x) := by
  subst hB
  have hA := h.alloc (.cells #[.int .i64 0, .int .i64 0, .int .i64 0, .int .i64 0, .int .i64 0] 128)
  obtain ⟨v', w1, hr, hg, hrow, ha⟩ := tree_more hA hn ⟨W.heap.size, 0, none⟩ (fun j x hx => by
    have e : (⟨W.heap.size, 0, none⟩ : Addr).add j = ⟨W.heap.size, j, none⟩ := by unfold Addr.add; split <;> simp_all
    rw [e, cell_of_row _ _ _ _ _ _ (heap_alloc_new W _)]
    simpa using hx)
  obtain ⟨g, cap, rfl, bg, lg, nc, cm⟩ := hrow.form (by omega)
  obtain ⟨m, ke, _, c1, _, f1⟩ := hA.put1 hg hrow hn ha
  refine ⟨g, cap, w1, hr, c1, f1, m, ?_, fun x hx => ?_⟩
  · exact (Ke.of_gr ((Ke.refl _ W).alloc _)).trans ke
  · rcases hx with e | e | e
    · exact .inl (.inl e)
    · rcases ha with q | q
      · rw [q] at e; exact .inl (.inr (.inl e))
      · rw [q] at e; cases e; simp
    · exact .inl (.inr (.inr e))

theorem add_full (w : World) (base p : Nat) (k : Int) (v u : Value) (n : Nat) (T : Nat → En) (L : Nat) (S : Nat → Nat) (h : Mem w base p k v u n T L S) (s : Nat) (hs : s < L) (hn : n + 1 ≤ 65536) :
    Calls Tryd.prog 82 #[.pointer (some ⟨p, 0, none⟩), .int .i64 s] w fun x w' => AddP w base p k v u n T L S s x w' := by
  obtain ⟨q, cap2, rfl, bq, lq, nc2, cm2⟩ := h.sp.form (by omega)
  obtain ⟨g, cap, w1, hr, d1, f1, H⟩ := tree_tail h hn rfl
  have c1 := h.c1
  have c2 := h.c2
  have hl6 := h.l6
  have fin : Hid (∀ i, i < L → Sz S L i = S i) := fun i hi => by simp [Sz, hi]
  have hm : ¬ 0 < (s : Int) + 1 - (L : Int) := by omega
  have HR := Lib.hid hr
  clear h hr
  go_enter Tryd.func82, Tryd.ntmps82
  go_wp2_with (at_builtin; refine Lib.wpList_append_run _ rfl _ _ _ _ rfl _ _ rfl rfl _ _ HR.out ?_)
  go_ret
  obtain ⟨m, ke, ft⟩ := H.out
  exact ⟨_, _, L, by simp, m.congrS fin.out, hs, Nat.le_refl _, ke, ft⟩

set_option maxHeartbeats 1000000 in
theorem add_more (w : World) (base p : Nat) (k : Int) (v u : Value) (n : Nat) (T : Nat → En) (L : Nat) (S : Nat → Nat) (h : Mem w base p k v u n T L S) (s : Nat) (hs : L ≤ s) (h6 : s < 65536) (hn : n + 1 ≤ 65536) :
    Calls Tryd.prog 82 #[.pointer (some ⟨p, 0, none⟩), .int .i64 s] w fun x w' => AddP w base p k v u n T L S s x w' := by
  obtain ⟨m, hm⟩ : ∃ m, m = s + 1 - L := ⟨_, rfl⟩
  obtain ⟨u', w2, hr2, hg2, hrow2, ha2⟩ := spots_more h m (by omega) (by omega)
  obtain ⟨L1, hL1⟩ : ∃ L1, L1 = L + m := ⟨_, rfl⟩
  rw [← hL1] at hrow2
  obtain ⟨q', cap2, rfl, bq, lq, nc2, cm2⟩ := hrow2.form (by omega)
  obtain ⟨M2, K2, e0, e1, e2, z2⟩ := h.put2 hg2 hrow2 (by omega) ha2
  obtain ⟨g, cap, w1, hr, d1, f1, H⟩ := tree_tail M2 hn (B := w2.heap.size) (by simp)
  have c1 := h.c1
  have c2 := h.c2
  have hl6 := h.l6
  have em : (s : Int) + 1 - (L : Int) = (m : Int) := by omega
  have hmz : 0 < (m : Int) := by omega
  have HR := Lib.hid hr
  have HR2 := Lib.hid hr2
  have KE2 := Lib.hid K2
  have HM := Lib.hid hm
  have HL1 := Lib.hid hL1
  have F2 : Hid (∀ x, Foot p v (.slice (some ⟨q', 0, none⟩) L1 cap2) x → Foot p v u x ∨ w.heap.size ≤ x) := fun x hx => by
    rcases hx with e | e | e
    · exact .inl (.inl e)
    · exact .inl (.inr (.inl e))
    · rcases ha2 with q | q
      · rw [q] at e; exact .inl (.inr (.inr e))
      · rw [q] at e; cases e; exact .inr (Nat.le_refl _)
  have KK : Hid (∀ W, Ke (Foot p v (.slice (some ⟨q', 0, none⟩) L1 cap2)) (w2.setCell ⟨p, 2, none⟩ (.slice (some ⟨q', 0, none⟩) L1 cap2)) W → Ke (Foot p v u) w W) := fun W kk => K2.comp kk (fun j hj q => by
    rcases F2.out j q with x | x
    · exact x
    · omega)
  have SZ : Hid (w.heap.size ≤ (w2.setCell ⟨p, 2, none⟩ (.slice (some ⟨q', 0, none⟩) L1 cap2)).heap.size) := K2.size
  rcases h.sp.shape with ⟨rfl, rfl⟩ | ⟨q, cap0, rfl, bq0, lq0, nc0, cm0⟩
  · replace em : (s : Int) + 1 = (m : Int) := by omega
    clear h hr hr2 hm hL1 M2 K2 hg2 hrow2 ha2
    go_enter Tryd.func82, Tryd.ntmps82
    go_wp2_with (at_builtin; (first | refine Lib.wpList_append_run _ rfl _ _ 136 3 rfl _ _ rfl rfl _ _ HR2.out ?_ | refine Lib.wpList_append_run _ rfl _ _ 135 135 rfl _ _ rfl rfl _ _ HR.out ?_))
    go_ret
    obtain ⟨m, ke, ft⟩ := H.out
    refine ⟨_, _, _, by simp, m, by have := HM.out; have := HL1.out; omega, by have := HL1.out; omega, KK.out _ ke, fun x hx => ?_⟩
    rcases ft x hx with q | q
    · exact F2.out x q
    · exact .inr (Nat.le_trans SZ.out q)
  · clear h hr hr2 hm hL1 M2 K2 hg2 hrow2 ha2
    go_enter Tryd.func82, Tryd.ntmps82
    go_wp2_with (at_builtin; (first | refine Lib.wpList_append_run _ rfl _ _ 136 3 rfl _ _ rfl rfl _ _ HR2.out ?_ | refine Lib.wpList_append_run _ rfl _ _ 135 135 rfl _ _ rfl rfl _ _ HR.out ?_))
    go_ret
    obtain ⟨m, ke, ft⟩ := H.out
    refine ⟨_, _, _, by simp, m, by have := HM.out; have := HL1.out; omega, by have := HL1.out; omega, KK.out _ ke, fun x hx => ?_⟩
    rcases ft x hx with q | q
    · exact F2.out x q
    · exact .inr (Nat.le_trans SZ.out q)
end Go.Proofs.YtlpjojegdnconaaDoor.Ca
