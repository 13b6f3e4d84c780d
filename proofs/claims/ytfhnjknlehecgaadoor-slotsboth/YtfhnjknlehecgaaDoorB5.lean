/- The law SlotsBoth walked. -/
import Derived.Test.YtfhnjknlehecgaaDoorR7
import Derived.Deep.DeepCutAuto
import Derived.Deep.CutBlock
namespace Go.Proofs.YtfhnjknlehecgaaDoor
open Go.RowKit Go.Lib Go.Maps Go.Sort
set_option linter.unusedVariables false

/-- Either every slot is taken, or there is a least free one. -/
theorem full_or_least (A : Nat → Option Int) : ∀ n, (∀ s, s < n → A s ≠ none) ∨ ∃ m, m < n ∧ A m = none ∧ ∀ s, s < m → A s ≠ none
  | 0 => .inl fun s hs => by omega
  | n + 1 => by
    rcases full_or_least A n with h | ⟨m, h1, h2, h3⟩
    · cases e : A n with
      | none => exact .inr ⟨n, by omega, e, h⟩
      | some x =>
        refine .inl fun s hs => ?_
        by_cases q : s = n
        · subst q; rw [e]; simp
        · exact h s (by omega)
    · exact .inr ⟨m, by omega, h2, h3⟩
theorem there_or_not (A : Nat → Option Int) (x : Int) : (∃ s, A s = some x) ∨ ∀ s, A s ≠ some x := by
  by_cases h : ∃ s, A s = some x
  · exact .inl h
  · exact .inr fun s hs => h ⟨s, hs⟩

theorem bits_and_u8_one (x : Nat) (hx : x < 256) : bits .and .u8 (x : Int) 1 = ((x % 2 : Nat) : Int) := by
  have h1 : (BitVec.ofInt 8 (x : Int)).toNat = x := by
    rw [BitVec.ofInt_natCast, BitVec.toNat_ofNat]; exact Nat.mod_eq_of_lt (by omega)
  have h2 : (BitVec.ofInt 8 (1 : Int)).toNat = 1 := by decide
  show IntKind.u8.wrap ((BitVec.ofInt 8 (x : Int) &&& BitVec.ofInt 8 (1 : Int)).toNat : Int) = _
  rw [BitVec.toNat_and, h1, h2, Nat.and_one_is_mod]
  have e : IntKind.u8.wrap ((x % 2 : Nat) : Int) = ((x % 2 : Nat) : Int) % 256 := by simp [IntKind.wrap, IntKind.signed, IntKind.bits]
  rw [e]; omega

/-- Something was put, or dropped, or not. -/
def SomeP (w0 : World) (p g bm n : Nat) (e : Ending) (w' : World) : Prop := ∃ v A', e = .returned v ∧ St w0 w' p g bm n A'
theorem put_some_any {w0 w : World} {p g bm n : Nat} {A : Nat → Option Int} (h : St w0 w p g bm n A) (x : Int) (hx : (Lit.int .i64 x).wf = true) : Calls Tryd.prog 9 #[.pointer (some ⟨p, 0, none⟩), .int .i64 x] w fun e w' => SomeP w0 p g bm n e w' := by
  rcases there_or_not A x with ⟨s, hs⟩ | hn
  · exact (st_put_there h x hx s hs).mono fun e w' ⟨h1, h2⟩ => ⟨_, A, h1, by rw [h2]; exact h⟩
  · rcases full_or_least A n with hf | ⟨m, h1, h2, h3⟩
    · exact (st_put_full h x hx hn hf).mono fun e w' ⟨h1, h2⟩ => ⟨_, A, h1, by rw [h2]; exact h⟩
    · exact (st_put_new h x hx hn m h1 h2 h3).mono fun e w' ⟨h1, h2, h3⟩ => ⟨_, _, h1, h2⟩
theorem drop_some_any {w0 w : World} {p g bm n : Nat} {A : Nat → Option Int} (h : St w0 w p g bm n A) (x : Int) (hx : (Lit.int .i64 x).wf = true) : Calls Tryd.prog 10 #[.pointer (some ⟨p, 0, none⟩), .int .i64 x] w fun e w' => SomeP w0 p g bm n e w' := by
  rcases there_or_not A x with ⟨s, hs⟩ | hn
  · exact (st_drop_some h x hx s hs).mono fun e w' ⟨h1, h2, h3⟩ => ⟨_, _, h1, h2⟩
  · exact (st_drop_none h x hx hn).mono fun e w' ⟨h1, h2⟩ => ⟨_, A, h1, by rw [h2]; exact h⟩

/-- The ids that were handed out lie there still. -/
structure Lie (w0 w : World) (p g bm n : Nat) (A : Nat → Option Int) (gi : Nat) (l : List Int) : Prop where
  st : St w0 w p g bm n A
  cell : ∀ i (h : i < l.length), w.cell? ⟨gi, i, none⟩ = some (.int .i64 l[i])
  ne : l.length = 0 ∨ (gi < w.heap.size ∧ gi ≠ p ∧ gi ≠ g ∧ gi ≠ bm)
theorem Lie.keep {w0 w w' : World} {p g bm n gi : Nat} {A A' : Nat → Option Int} {l : List Int} (h : Lie w0 w p g bm n A gi l) (k : Kept3 p g bm w w') (s : St w0 w' p g bm n A') : Lie w0 w' p g bm n A' gi l := by
  refine ⟨s, fun i hi => ?_, ?_⟩
  · rcases h.ne with e | ⟨h1, h2, h3, h4⟩
    · omega
    · exact (World.cell?_of_block (a := ⟨gi, i, none⟩) (k.block gi h1 h2 h3 h4)).trans (h.cell i hi)
  · rcases h.ne with e | ⟨h1, h2, h3, h4⟩
    · exact .inl e
    · exact .inr ⟨Nat.lt_of_lt_of_le h1 k.size, h2, h3, h4⟩
theorem Ids.lie {w0 w w' : World} {p g bm n gi cap : Nat} {A : Nat → Option Int} {l : List Int} (h : Ids w0 w w' p g bm n A gi cap l) (s : St w0 w p g bm n A) : Lie w0 w' p g bm n A gi l := by
  refine ⟨h.st, h.cell, ?_⟩
  obtain ⟨D, r⟩ := s.rep
  have h1 := r.pl; have h2 := r.gl; have h3 := r.ml; have h4 := h.new
  rcases h.lt with e | e
  · exact .inr ⟨e, by omega, by omega, by omega⟩
  · exact .inl e

set_option maxRecDepth 100000 in
set_option maxHeartbeats 4000000 in
theorem both_walk (b off n cap : Nat) (q : List Nat) (w : World) (hq : q.length = n) (hn : n ≤ 200) (hb : b < w.heap.size) (hc : ∀ i (h : i < q.length), q[i] < 256 ∧ w.cell? ⟨b, off + i, none⟩ = some (.int .u8 q[i])) (hT : Tab w) :
    Calls Tryd.prog 6 #[.slice (some ⟨b, off, none⟩) n cap] w fun e w' => e = .returned (.bool true) ∧ Below w.heap.size w w' := by
  have T := Lib.hid hT
  have HC := Lib.hid hc
  have HQ := Lib.hid hq
  clear hT hc hq
  have hd : decide ((n : Int) > 200) = false := by simp; omega
  have C7 := Lib.hid (awake_true w T.out)
  go_enter Tryd.func6, Tryd.ntmps6
  go_wp2_with fail
  refine C7.out.mono ?_
  rintro e w1 ⟨rfl, B1⟩
  have BB := Lib.hid B1
  clear C7 B1
  have C := Lib.hid (st_new BB.out T.out 12 12 (by omega) (by simp))
  go_wp2_with fail
  refine C.out.mono ?_
  rintro e w2 ⟨p, g, bm, rfl, hm⟩
  have SM := Lib.hid hm
  clear C hm BB
  go_wp2_with fail
  go_loopg [4] n (fun kx s4 wr => ∃ (i : Nat) (A : Nat → Option Int), s4 = .int .i64 i ∧ i ≤ n ∧ n - i ≤ kx ∧ Aside (St w wr p g bm 12 A))
  case atStart => exact ⟨0, _, rfl, by omega, by omega, SM.out⟩
  case round =>
    clear SM
    obtain ⟨i, A, rfl, hi, hkx, S⟩ := hrel
    by_cases hlt : i < n
    · have hltz : (i : Int) < (n : Int) := by omega
      obtain ⟨hx, cx⟩ := HC.out i (by rw [HQ.out]; exact hlt)
      obtain ⟨x, ex⟩ : ∃ x, x = q[i]'(by rw [HQ.out]; exact hlt) := ⟨_, rfl⟩
      rw [← ex] at hx cx
      replace cx := (S.out.below.cell (p := ⟨b, _, none⟩) hb).trans cx
      clear ex
      have hidw : (Lit.int .i64 ((x : Int) / 2 % 20)).wf = true := WalkArith.wf_i64 (by omega)
      have hb2 := bits_and_u8_one x hx
      rcases Nat.mod_two_eq_zero_or_one x with h2 | h2
      · rw [h2] at hb2
        have C := Lib.hid (put_some_any S.out ((x : Int) / 2 % 20) hidw)
        go_wp2_with fail
        refine C.out.mono ?_
        rintro e w5 ⟨v5, A2, rfl, S5⟩
        have S2 := Lib.hid S5
        clear S5 cx hb2
        clear C S
        have C := Lib.hid (st_ids S2.out)
        go_wp2_with fail
        refine C.out.mono ?_
        rintro e w6 ⟨gi, cap2, l, rfl, hI⟩
        have LI := Lib.hid (hI.lie S2.out)
        have HL := Lib.hid hI.len
        have HM := Lib.hid hI.mem
        obtain ⟨m, hm⟩ : ∃ m, m = l.length := ⟨_, rfl⟩
        rw [← hm]
        have hmc : m ≤ cap2 := by rw [hm]; exact hI.cap
        have hm12 : m ≤ 12 := by rw [hm, hI.len]; exact cnt_le _ _
        have LM := Lib.hid hm
        clear C S2 hI hm
        go_wp2_with fail
        go_loopg [7] m (fun ky s7 wz => ∃ k : Nat, s7 = .int .i64 k ∧ k ≤ m ∧ m - k ≤ ky ∧ Aside (Lie w wz p g bm 12 A2 gi l))
        case atStart => exact ⟨0, rfl, by omega, by omega, LI.out⟩
        case round =>
          clear LI
          obtain ⟨k, rfl, hk, hky, LY⟩ := hrel
          by_cases hkm : k < m
          · have hkz : (k : Int) < (m : Int) := by omega
            have hkl : k < l.length := by rw [← LM.out]; exact hkm
            have cz := LY.out.cell k hkl
            obtain ⟨y, ey⟩ : ∃ y, y = l[k] := ⟨_, rfl⟩
            obtain ⟨s, hs⟩ := (HM.out y).1 (by rw [ey]; exact List.getElem_mem hkl)
            rw [← ey] at cz
            have hs12 : s < 12 := by
              obtain ⟨D, r⟩ := LY.out.st.rep
              rcases Nat.lt_or_ge s 12 with q | q
              · exact q
              · rw [r.out s q] at hs; cases hs
            have hyw : (Lit.int .i64 y).wf = true := by
              obtain ⟨D, r⟩ := LY.out.st.rep
              exact r.wf s y hs
            have EY := Lib.hid ey
            have C1 := Lib.hid (st_get_some LY.out.st y hyw s hs)
            have C2 := Lib.hid (st_id_some LY.out.st s y hs)
            clear ey hs
            have f1 : decide ((s : Int) < 0) = false := by simp
            have f2 : decide ((s : Int) ≥ 12) = false := by simp; omega
            have f3 : ((y : Int) != y) = false := by simp
            go_wp2_with fail
            refine C1.out.mono ?_
            rintro e w7 ⟨rfl, hw⟩
            obtain rfl := hw.symm
            clear hw C1
            go_wp2_with fail
            refine C2.out.mono ?_
            rintro e w8 ⟨rfl, S8, K8⟩
            have LY8 : Aside (Lie w w8 p g bm 12 A2 gi l) := LY.out.keep K8 S8
            have cz8 := LY8.out.cell k hkl
            rw [← EY.out] at cz8
            clear C2 S8 K8 LY cz EY
            go_wp2
            go_roundg (m - (k + 1))
            case measure => omega
            case rel => exact ⟨k + 1, by go_num, by omega, Nat.le_refl _, LY8⟩
          · have hkz : ¬ (k : Int) < (m : Int) := by omega
            have C := Lib.hid (st_len LY.out.st)
            rw [← HL.out, ← LM.out] at C
            have f1 : ((m : Int) != (m : Int)) = false := by simp
            have f2 : decide ((m : Int) > 12) = false := by simp; omega
            go_wp2_with fail
            refine C.out.mono ?_
            rintro e w7 ⟨rfl, hw⟩
            obtain rfl := hw.symm
            clear hw
            go_wp2_with fail
            refine C.out.mono ?_
            rintro e w7 ⟨rfl, hw⟩
            obtain rfl := hw.symm
            clear hw C
            go_wp2
            go_roundg (n - (i + 1))
            case measure => omega
            case rel => exact ⟨i + 1, A2, by go_num, by omega, Nat.le_refl _, LY.out.st⟩
      · rw [h2] at hb2
        have C := Lib.hid (drop_some_any S.out ((x : Int) / 2 % 20) hidw)
        go_wp2_with fail
        refine C.out.mono ?_
        rintro e w5 ⟨v5, A2, rfl, S5⟩
        have S2 := Lib.hid S5
        clear S5 cx hb2
        clear C S
        have C := Lib.hid (st_ids S2.out)
        go_wp2_with fail
        refine C.out.mono ?_
        rintro e w6 ⟨gi, cap2, l, rfl, hI⟩
        have LI := Lib.hid (hI.lie S2.out)
        have HL := Lib.hid hI.len
        have HM := Lib.hid hI.mem
        obtain ⟨m, hm⟩ : ∃ m, m = l.length := ⟨_, rfl⟩
        rw [← hm]
        have hmc : m ≤ cap2 := by rw [hm]; exact hI.cap
        have hm12 : m ≤ 12 := by rw [hm, hI.len]; exact cnt_le _ _
        have LM := Lib.hid hm
        clear C S2 hI hm
        go_wp2_with fail
        go_loopg [7] m (fun ky s7 wz => ∃ k : Nat, s7 = .int .i64 k ∧ k ≤ m ∧ m - k ≤ ky ∧ Aside (Lie w wz p g bm 12 A2 gi l))
        case atStart => exact ⟨0, rfl, by omega, by omega, LI.out⟩
        case round =>
          clear LI
          obtain ⟨k, rfl, hk, hky, LY⟩ := hrel
          by_cases hkm : k < m
          · have hkz : (k : Int) < (m : Int) := by omega
            have hkl : k < l.length := by rw [← LM.out]; exact hkm
            have cz := LY.out.cell k hkl
            obtain ⟨y, ey⟩ : ∃ y, y = l[k] := ⟨_, rfl⟩
            obtain ⟨s, hs⟩ := (HM.out y).1 (by rw [ey]; exact List.getElem_mem hkl)
            rw [← ey] at cz
            have hs12 : s < 12 := by
              obtain ⟨D, r⟩ := LY.out.st.rep
              rcases Nat.lt_or_ge s 12 with q | q
              · exact q
              · rw [r.out s q] at hs; cases hs
            have hyw : (Lit.int .i64 y).wf = true := by
              obtain ⟨D, r⟩ := LY.out.st.rep
              exact r.wf s y hs
            have EY := Lib.hid ey
            have C1 := Lib.hid (st_get_some LY.out.st y hyw s hs)
            have C2 := Lib.hid (st_id_some LY.out.st s y hs)
            clear ey hs
            have f1 : decide ((s : Int) < 0) = false := by simp
            have f2 : decide ((s : Int) ≥ 12) = false := by simp; omega
            have f3 : ((y : Int) != y) = false := by simp
            go_wp2_with fail
            refine C1.out.mono ?_
            rintro e w7 ⟨rfl, hw⟩
            obtain rfl := hw.symm
            clear hw C1
            go_wp2_with fail
            refine C2.out.mono ?_
            rintro e w8 ⟨rfl, S8, K8⟩
            have LY8 : Aside (Lie w w8 p g bm 12 A2 gi l) := LY.out.keep K8 S8
            have cz8 := LY8.out.cell k hkl
            rw [← EY.out] at cz8
            clear C2 S8 K8 LY cz EY
            go_wp2
            go_roundg (m - (k + 1))
            case measure => omega
            case rel => exact ⟨k + 1, by go_num, by omega, Nat.le_refl _, LY8⟩
          · have hkz : ¬ (k : Int) < (m : Int) := by omega
            have C := Lib.hid (st_len LY.out.st)
            rw [← HL.out, ← LM.out] at C
            have f1 : ((m : Int) != (m : Int)) = false := by simp
            have f2 : decide ((m : Int) > 12) = false := by simp; omega
            go_wp2_with fail
            refine C.out.mono ?_
            rintro e w7 ⟨rfl, hw⟩
            obtain rfl := hw.symm
            clear hw
            go_wp2_with fail
            refine C.out.mono ?_
            rintro e w7 ⟨rfl, hw⟩
            obtain rfl := hw.symm
            clear hw C
            go_wp2
            go_roundg (n - (i + 1))
            case measure => omega
            case rel => exact ⟨i + 1, A2, by go_num, by omega, Nat.le_refl _, LY.out.st⟩
    · have hltz : ¬ (i : Int) < (n : Int) := by omega
      go_wp2
      go_ret
      exact ⟨rfl, S.out.below⟩

set_option maxRecDepth 100000 in
set_option maxHeartbeats 4000000 in
theorem both_big (a : Option Addr) (n cap : Nat) (w : World) (hn : 200 < n) (hT : Tab w) :
    Calls Tryd.prog 6 #[.slice a n cap] w fun e w' => e = .returned (.bool true) ∧ Below w.heap.size w w' := by
  have T := Lib.hid hT
  clear hT
  have hd : decide ((n : Int) > 200) = true := by simp; omega
  have C7 := Lib.hid (awake_true w T.out)
  go_enter Tryd.func6, Tryd.ntmps6
  go_wp2_with fail
  refine C7.out.mono ?_
  rintro e w1 ⟨rfl, B1⟩
  have BB := Lib.hid B1
  clear C7 B1
  have C := Lib.hid (st_new BB.out T.out 12 12 (by omega) (by simp))
  go_wp2_with fail
  refine C.out.mono ?_
  rintro e w2 ⟨p, g, bm, rfl, hm⟩
  have SM := Lib.hid hm
  clear C hm BB
  go_wp2
  go_ret
  exact ⟨rfl, SM.out.below⟩

set_option maxRecDepth 100000 in
set_option maxHeartbeats 4000000 in
theorem both_none (a : Option Addr) (cap : Nat) (w : World) (hT : Tab w) :
    Calls Tryd.prog 6 #[.slice a (0 : Nat) cap] w fun e w' => e = .returned (.bool true) ∧ Below w.heap.size w w' := by
  have T := Lib.hid hT
  clear hT
  have C7 := Lib.hid (awake_true w T.out)
  go_enter Tryd.func6, Tryd.ntmps6
  go_wp2_with fail
  refine C7.out.mono ?_
  rintro e w1 ⟨rfl, B1⟩
  have BB := Lib.hid B1
  clear C7 B1
  have C := Lib.hid (st_new BB.out T.out 12 12 (by omega) (by simp))
  go_wp2_with fail
  refine C.out.mono ?_
  rintro e w2 ⟨p, g, bm, rfl, hm⟩
  have SM := Lib.hid hm
  clear C hm BB
  go_wp2_with fail
  refine wp_loop_rounds 1 ?_
  rw [rounds_succ]
  go_wp2_with fail
  go_ret
  exact ⟨rfl, SM.out.below⟩
end Go.Proofs.YtfhnjknlehecgaaDoor
