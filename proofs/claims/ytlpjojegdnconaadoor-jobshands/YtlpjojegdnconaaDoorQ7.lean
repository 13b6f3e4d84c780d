/- Jobs: contract of Join where it is done. -/
import Derived.Test.YtlpjojegdnconaaDoorQ6
namespace Go.Proofs.YtlpjojegdnconaaDoor
open Go.RowKit Go.Lib Go.Maps
open Ca (Ke Gr Sv Row Cl Ky Bs blk_other)
set_option linter.unusedVariables false
set_option maxRecDepth 100000
set_option maxHeartbeats 2000000
section
variable {w w1 : World} {base p n c g bm : Nat} {v v' : Value} {m : Nat} {A A' : Nat → Option Int} {T T' : Nat → Tk} {D D' : DataW Unit} {Fc : Nat → Prop} {L : List Ky} {q cap : Nat} {S : List Tk} {F : Nat → Prop}
/-- Into a place that was there. -/
theorem join_old (hx : Jx w base p n c g bm v m A T D Fc L) (a : At c A T) (sl : Sl S A T) (lk : Lk A T L) (hT : Tab w) (id e pp : Int) (sp : Bool) (hi : (Lit.int .i64 id).wf = true) (hc : canT e pp = true) (hn : ∀ s, A s ≠ some id) (m0 : Nat) (hm0 : m0 < n) (hA : A m0 = none) (hl : ∀ s, s < m0 → A s ≠ none) (hmm : m0 < m) :
    Calls Tryd.prog 10 #[.pointer (some ⟨p, 0, none⟩), .int .i64 id, .int .i64 e, .int .i64 pp, .bool sp] w fun x w' => x = .returned (.int .i64 0) ∧ JQ w base p n c (FJ g bm v Fc) (insT (newT id e pp sp) S) w' := by
  have CM := Lib.hid (may_any e pp w)
  rw [hc] at CM
  have CP := Lib.hid (put_new p g bm n A D w hx.rep hT id hi hn m0 hm0 hA hl)
  obtain ⟨q, cap, rfl, _⟩ := hx.row.form (by omega)
  have JN : Hid (∀ w1 D', Kept3 p g bm w w1 → Rep w1 p g bm n (upd A m0 (some id)) D' → Jn w base p n c (FJ g bm (.slice (some ⟨q, 0, none⟩) m cap) Fc) S q m m0 cap (newT id e pp sp) w1) := fun w1 D' k r => by
    have h1 := hx.table k r (fun t ht => by
      by_cases z : t = m0
      · subst z; exact hmm
      · rw [upd_other _ _ z] at ht; exact hx.tk t ht)
    exact jn_of h1 ⟨hx.table_ke k, fun _ z => .inl z⟩ a sl lk hA hn (okT_new hi hc) rfl rfl
  have dm : ((m0 : Int) == (m : Int)) = false := by simp; omega
  clear hx a sl lk hT hc hn hA hl hm0
  go_enter Tryd.func10, Tryd.ntmps10
  go_wp2_with fail
  refine CM.out.mono ?_
  rintro x w1 ⟨rfl, hw⟩
  obtain rfl := hw.symm
  clear hw CM
  go_wp2_with fail
  refine CP.out.mono ?_
  rintro x w1 ⟨rfl, k1, r1⟩
  have K1 := Lib.hid k1
  have R1 := Lib.hid r1
  clear k1 r1 CP
  have JJ := Lib.hid (JN.out _ _ K1.out R1.out)
  clear JN K1 R1 hmm
  have c67 := JJ.out.c67
  have hlt := JJ.out.lt
  have hm4 := JJ.out.m4
  obtain ⟨y0, k0⟩ := Option.isSome_iff_exists.1 (JJ.out.cells 0 (by omega))
  obtain ⟨y1, k1⟩ := Option.isSome_iff_exists.1 (JJ.out.cells 1 (by omega))
  obtain ⟨y2, k2⟩ := Option.isSome_iff_exists.1 (JJ.out.cells 2 (by omega))
  obtain ⟨y3, k3⟩ := Option.isSome_iff_exists.1 (JJ.out.cells 3 (by omega))
  obtain ⟨y4, k4⟩ := Option.isSome_iff_exists.1 (JJ.out.cells 4 (by omega))
  obtain ⟨y5, k5⟩ := Option.isSome_iff_exists.1 (JJ.out.cells 5 (by omega))
  obtain ⟨y6, k6⟩ := Option.isSome_iff_exists.1 (JJ.out.cells 6 (by omega))
  obtain ⟨y7, k7⟩ := Option.isSome_iff_exists.1 (JJ.out.cells 7 (by omega))
  obtain ⟨y8, k8⟩ := Option.isSome_iff_exists.1 (JJ.out.cells 8 (by omega))
  obtain ⟨y9, k9⟩ := Option.isSome_iff_exists.1 (JJ.out.cells 9 (by omega))
  obtain ⟨y10, k10⟩ := Option.isSome_iff_exists.1 (JJ.out.cells 10 (by omega))
  simp only [Nat.add_zero] at k0
  have z0 := JJ.out.fz (m0 * 11)
  have z1 := JJ.out.fz (m0 * 11 + 1)
  have z2 := JJ.out.fz (m0 * 11 + 2)
  have z3 := JJ.out.fz (m0 * 11 + 3)
  have z4 := JJ.out.fz (m0 * 11 + 4)
  have z5 := JJ.out.fz (m0 * 11 + 5)
  have z6 := JJ.out.fz (m0 * 11 + 6)
  have z7 := JJ.out.fz (m0 * 11 + 7)
  have z8 := JJ.out.fz (m0 * 11 + 8)
  have z9 := JJ.out.fz (m0 * 11 + 9)
  have z10 := JJ.out.fz (m0 * 11 + 10)
  have hlz : (m0 : Int) < (m : Int) := by omega
  have FI := Lib.hid JJ.out.fin
  simp only [put11, newT] at FI
  clear hlt JJ
  go_wp2_with fail
  go_ret
  have hf := FI.out
  exact ⟨rfl, hf⟩

/-- Into a new place. -/
theorem join_more (hx : Jx w base p n c g bm v m A T D Fc L) (hb : base ≤ w.heap.size) (a : At c A T) (sl : Sl S A T) (lk : Lk A T L) (hT : Tab w) (id e pp : Int) (sp : Bool) (hi : (Lit.int .i64 id).wf = true) (hc : canT e pp = true) (hn : ∀ s, A s ≠ some id) (m0 : Nat) (hm0 : m0 < n) (hA : A m0 = none) (hl : ∀ s, s < m0 → A s ≠ none) (hmm : m0 = m) :
    Calls Tryd.prog 10 #[.pointer (some ⟨p, 0, none⟩), .int .i64 id, .int .i64 e, .int .i64 pp, .bool sp] w fun x w' => x = .returned (.int .i64 0) ∧ JQ w base p n c (FJ g bm v Fc) (insT (newT id e pp sp) S) w' := by
  have CM := Lib.hid (may_any e pp w)
  rw [hc] at CM
  have CP := Lib.hid (put_new p g bm n A D w hx.rep hT id hi hn m0 hm0 hA hl)
  have hn4 := hx.rep.n4
  have ST : Hid (∀ w1 D', Kept3 p g bm w w1 → Rep w1 p g bm n (upd A m0 (some id)) D' → w1.cell? ⟨p, 67, none⟩ = some v ∧ ∃ q cap w2, (Builtin.append_ #[71, 71] 71 #[v, .slice (some ⟨w1.heap.size, 0, none⟩) 1 1]).run Tryd.prog (w1.alloc zTO) = .ok (.slice (some ⟨q, 0, none⟩) (m0 + 1) cap) w2 ∧ w2.cell? ⟨p, 67, none⟩ = some v ∧ w2.frozen? ⟨p, 67, none⟩ = false ∧ Jn w base p n c (FJ g bm v Fc) S q (m0 + 1) m0 cap (newT id e pp sp) (w2.setCell ⟨p, 67, none⟩ (.slice (some ⟨q, 0, none⟩) (m0 + 1) cap))) := fun w1 D' k r => by
    subst hmm
    have K := kept3_ke k
    have ro : Row w1 base 49 11 v m0 (tc T) := hx.row.keep (fun j hj => K.block j (hx.row.lt hj).2 (fun z => by
      rcases z with rfl | rfl | rfl
      · exact hx.vp hj
      · exact hx.vg hj
      · exact hx.vm hj))
    obtain ⟨v', w2, hr, hg, hrow, hown⟩ := tasks_more w1 base v m0 T ro (Nat.le_trans hb k.size) (by omega)
    obtain ⟨q, cap, rfl, _⟩ := hrow.form (by omega)
    obtain ⟨h1, sv, c67, z67⟩ := hx.join k r (by omega) (fun s hs => by
      by_cases z : s = m0
      · omega
      · rw [upd_other _ _ z] at hs; have := hx.tk s hs; omega) ((Ke.refl _ w1).alloc zTO) hg hrow (by simpa using hown)
    have c67a : w1.cell? ⟨p, 67, none⟩ = some v := (k.hi 67 (by omega)).trans hx.c67
    exact ⟨c67a, q, cap, w2, hr, c67, z67, jn_of h1 sv a sl lk hA hn (okT_new hi hc) rfl (upd_upd _ _ _ _)⟩
  have SH : (v = .slice none 0 0 ∧ m0 = 0) ∨ ∃ g' cap', v = .slice (some ⟨g', 0, none⟩) m0 cap' := by
    rw [hmm]
    rcases hx.row.shape with z | ⟨g', cap', z, _⟩
    · exact .inl z
    · exact .inr ⟨g', cap', z⟩
  clear hx hb a sl lk hT hc hn hA hl hm0 hmm
  rcases SH with ⟨rfl, rfl⟩ | ⟨g', cap', rfl⟩
  ·   go_enter Tryd.func10, Tryd.ntmps10
      go_wp2_with fail
      refine CM.out.mono ?_
      rintro x w1 ⟨rfl, hw⟩
      obtain rfl := hw.symm
      clear hw CM
      go_wp2_with fail
      refine CP.out.mono ?_
      rintro x w1 ⟨rfl, k1, r1⟩
      have K1 := Lib.hid k1
      have R1 := Lib.hid r1
      clear k1 r1 CP
      obtain ⟨c67a, q, cap, w2, hr, c67b, z67, jn⟩ := ST.out _ _ K1.out R1.out
      have HR := Lib.hid hr
      have JJ := Lib.hid jn
      clear ST K1 R1 hr jn
      simp only [Nat.zero_add] at HR JJ
      go_upto_region 8 with (at_builtin; refine Lib.wpList_append_run _ rfl _ _ 71 71 rfl _ _ rfl rfl _ _ HR.out ?_)
      have c67 := JJ.out.c67
      have hlt := JJ.out.lt
      have hm4 := JJ.out.m4
      obtain ⟨y0, k0⟩ := Option.isSome_iff_exists.1 (JJ.out.cells 0 (by omega))
      obtain ⟨y1, k1⟩ := Option.isSome_iff_exists.1 (JJ.out.cells 1 (by omega))
      obtain ⟨y2, k2⟩ := Option.isSome_iff_exists.1 (JJ.out.cells 2 (by omega))
      obtain ⟨y3, k3⟩ := Option.isSome_iff_exists.1 (JJ.out.cells 3 (by omega))
      obtain ⟨y4, k4⟩ := Option.isSome_iff_exists.1 (JJ.out.cells 4 (by omega))
      obtain ⟨y5, k5⟩ := Option.isSome_iff_exists.1 (JJ.out.cells 5 (by omega))
      obtain ⟨y6, k6⟩ := Option.isSome_iff_exists.1 (JJ.out.cells 6 (by omega))
      obtain ⟨y7, k7⟩ := Option.isSome_iff_exists.1 (JJ.out.cells 7 (by omega))
      obtain ⟨y8, k8⟩ := Option.isSome_iff_exists.1 (JJ.out.cells 8 (by omega))
      obtain ⟨y9, k9⟩ := Option.isSome_iff_exists.1 (JJ.out.cells 9 (by omega))
      obtain ⟨y10, k10⟩ := Option.isSome_iff_exists.1 (JJ.out.cells 10 (by omega))
      simp only [Nat.add_zero] at k0
      have z0 := JJ.out.fz (0 * 11)
      have z1 := JJ.out.fz (0 * 11 + 1)
      have z2 := JJ.out.fz (0 * 11 + 2)
      have z3 := JJ.out.fz (0 * 11 + 3)
      have z4 := JJ.out.fz (0 * 11 + 4)
      have z5 := JJ.out.fz (0 * 11 + 5)
      have z6 := JJ.out.fz (0 * 11 + 6)
      have z7 := JJ.out.fz (0 * 11 + 7)
      have z8 := JJ.out.fz (0 * 11 + 8)
      have z9 := JJ.out.fz (0 * 11 + 9)
      have z10 := JJ.out.fz (0 * 11 + 10)
      have hlz : ((0 : Nat) : Int) < ((1 : Nat) : Int) := by omega
      have FI := Lib.hid JJ.out.fin
      simp only [put11, newT] at FI
      clear hlt JJ c67a c67b z67 HR
      go_wp2_with fail
      go_ret
      have hf := FI.out
      exact ⟨rfl, hf⟩
  ·   go_enter Tryd.func10, Tryd.ntmps10
      go_wp2_with fail
      refine CM.out.mono ?_
      rintro x w1 ⟨rfl, hw⟩
      obtain rfl := hw.symm
      clear hw CM
      go_wp2_with fail
      refine CP.out.mono ?_
      rintro x w1 ⟨rfl, k1, r1⟩
      have K1 := Lib.hid k1
      have R1 := Lib.hid r1
      clear k1 r1 CP
      obtain ⟨c67a, q, cap, w2, hr, c67b, z67, jn⟩ := ST.out _ _ K1.out R1.out
      have HR := Lib.hid hr
      have JJ := Lib.hid jn
      clear ST K1 R1 hr jn
      obtain ⟨m1, hm1⟩ : ∃ m1, m1 = m0 + 1 := ⟨_, rfl⟩
      rw [← hm1] at HR JJ
      clear hm1
      go_upto_region 8 with (at_builtin; refine Lib.wpList_append_run _ rfl _ _ 71 71 rfl _ _ rfl rfl _ _ HR.out ?_)
      have c67 := JJ.out.c67
      have hlt := JJ.out.lt
      have hm4 := JJ.out.m4
      obtain ⟨y0, k0⟩ := Option.isSome_iff_exists.1 (JJ.out.cells 0 (by omega))
      obtain ⟨y1, k1⟩ := Option.isSome_iff_exists.1 (JJ.out.cells 1 (by omega))
      obtain ⟨y2, k2⟩ := Option.isSome_iff_exists.1 (JJ.out.cells 2 (by omega))
      obtain ⟨y3, k3⟩ := Option.isSome_iff_exists.1 (JJ.out.cells 3 (by omega))
      obtain ⟨y4, k4⟩ := Option.isSome_iff_exists.1 (JJ.out.cells 4 (by omega))
      obtain ⟨y5, k5⟩ := Option.isSome_iff_exists.1 (JJ.out.cells 5 (by omega))
      obtain ⟨y6, k6⟩ := Option.isSome_iff_exists.1 (JJ.out.cells 6 (by omega))
      obtain ⟨y7, k7⟩ := Option.isSome_iff_exists.1 (JJ.out.cells 7 (by omega))
      obtain ⟨y8, k8⟩ := Option.isSome_iff_exists.1 (JJ.out.cells 8 (by omega))
      obtain ⟨y9, k9⟩ := Option.isSome_iff_exists.1 (JJ.out.cells 9 (by omega))
      obtain ⟨y10, k10⟩ := Option.isSome_iff_exists.1 (JJ.out.cells 10 (by omega))
      simp only [Nat.add_zero] at k0
      have z0 := JJ.out.fz (m0 * 11)
      have z1 := JJ.out.fz (m0 * 11 + 1)
      have z2 := JJ.out.fz (m0 * 11 + 2)
      have z3 := JJ.out.fz (m0 * 11 + 3)
      have z4 := JJ.out.fz (m0 * 11 + 4)
      have z5 := JJ.out.fz (m0 * 11 + 5)
      have z6 := JJ.out.fz (m0 * 11 + 6)
      have z7 := JJ.out.fz (m0 * 11 + 7)
      have z8 := JJ.out.fz (m0 * 11 + 8)
      have z9 := JJ.out.fz (m0 * 11 + 9)
      have z10 := JJ.out.fz (m0 * 11 + 10)
      have hlz : (m0 : Int) < (m1 : Int) := by omega
      have FI := Lib.hid JJ.out.fin
      simp only [put11, newT] at FI
      clear hlt JJ c67a c67b z67 HR
      go_wp2_with fail
      go_ret
      have hf := FI.out
      exact ⟨rfl, hf⟩
end
end Go.Proofs.YtlpjojegdnconaaDoor
