/- The law SlotsKnown walked. -/
import Derived.Test.YtfhnjknlehecgaaDoorR7
namespace Go.Proofs.YtfhnjknlehecgaaDoor
open Go.RowKit Go.Lib Go.Maps Go.Sort
set_option linter.unusedVariables false

/-- A new table beside what lay. -/
def NewQ (w0 w : World) (m : Nat) (e : Ending) (w' : World) : Prop := ∃ p g bm, e = .returned (.pointer (some ⟨p, 0, none⟩)) ∧ St w0 w' p g bm m (fun _ => none) ∧ w.heap.size ≤ p ∧ w.heap.size ≤ g ∧ w.heap.size ≤ bm ∧ Below w.heap.size w w'
theorem newQ_of {w0 w w' : World} {m : Nat} {e : Ending} (hb : Below w0.heap.size w0 w) (hT : Tab w0) (h : NewPost w m e w') : NewQ w0 w m e w' := by
  obtain ⟨p, g, bm, rfl, h1, h2, h3, h4, h5⟩ := h
  have hs := hb.size
  exact ⟨p, g, bm, rfl, ⟨hb.trans (h4.mono hs), ⟨_, h5⟩, by omega, by omega, by omega, hT⟩, h1, h2, h3, h4⟩
theorem st_new2 {w0 w : World} (hb : Below w0.heap.size w0 w) (hT : Tab w0) (x : Int) (m : Nat) (hm : m ≤ 4096) (hlo : (if x < 0 then 0 else x) = (m : Int)) : Calls Tryd.prog 8 #[.int .i64 x] w fun e w' => NewQ w0 w m e w' :=
  (new_any x m w hm hlo).mono fun _ _ h => newQ_of hb hT h
theorem st_new_big {w0 w : World} (hb : Below w0.heap.size w0 w) (hT : Tab w0) (x : Int) (m : Nat) (hx : 4096 < x) (hm : m = 4096) : Calls Tryd.prog 8 #[.int .i64 x] w fun e w' => NewQ w0 w m e w' :=
  (new_big x m w hx hm).mono fun _ _ h => newQ_of hb hT h

theorem Kept3.of_below {w w' : World} (p g bm : Nat) (h : Below w.heap.size w w') : Kept3 p g bm w w' := ⟨h.os, h.tape, h.output, h.size, fun j hj _ _ _ => h.block j hj⟩
/-- A table beside another that was turned. -/
theorem St.beside {w0 w w' : World} {p g bm n p' g' bm' : Nat} {A : Nat → Option Int} (h : St w0 w p g bm n A) (k : Kept3 p' g' bm' w w') (hp : p ≠ p' ∧ p ≠ g' ∧ p ≠ bm') (hg : g ≠ p' ∧ g ≠ g' ∧ g ≠ bm') (hb : bm ≠ p' ∧ bm ≠ g' ∧ bm ≠ bm') (hB : Below w0.heap.size w0 w') : St w0 w' p g bm n A := by
  obtain ⟨D, r⟩ := h.rep
  exact ⟨hB, ⟨D, r.keep k.size (k.block _ r.pl hp.1 hp.2.1 hp.2.2) (k.block _ r.gl hg.1 hg.2.1 hg.2.2) (k.block _ r.ml hb.1 hb.2.1 hb.2.2)⟩, h.bp, h.bg, h.bb, h.tab⟩

/-- The first k of the ids laid. -/
def Seven (k : Nat) : Nat → Option Int := fun s => if s < k then some (7 * (s : Int)) else none
theorem seven_start : Seven 0 = fun _ => none := funext fun s => by simp [Seven]
theorem seven_step (k : Nat) : upd (Seven k) k (some ((k : Int) * 7)) = Seven (k + 1) := funext fun s => by
  by_cases e : s = k
  · subst e; rw [upd_same]; simp [Seven]; omega
  · rw [upd_other _ _ e]
    unfold Seven
    by_cases h : s < k
    · rw [if_pos h, if_pos (by omega)]
    · rw [if_neg h, if_neg (by omega)]
theorem seven_ne {k : Nat} {y : Int} (h : ∀ s : Nat, s < k → 7 * (s : Int) ≠ y) : ∀ s, Seven k s ≠ some y := fun s => by
  unfold Seven
  split
  · rename_i hs; simpa using h s hs
  · simp


set_option maxRecDepth 100000 in
set_option maxHeartbeats 4000000 in
theorem known_walk (w : World) (hT : Tab w) : Calls Tryd.prog 5 #[] w fun e w' => e = .returned (.bool true) ∧ Below w.heap.size w w' := by
  have T := Lib.hid hT
  clear hT
  have C7 := Lib.hid (awake_true w T.out)
  go_enter Tryd.func5, Tryd.ntmps5
  go_wp2_with fail
  refine C7.out.mono ?_
  rintro e w1 ⟨rfl, B1⟩
  have BB := Lib.hid B1
  clear C7 B1
  have C := Lib.hid (st_new2 BB.out T.out (-3) 0 (by omega) (by simp))
  go_wp2_with fail
  refine C.out.mono ?_
  rintro e w2 ⟨pz, gz, bz, rfl, hz⟩
  have Z := Lib.hid hz
  clear C hz
  have C := Lib.hid (st_new_big Z.out.1.below T.out 4101 4096 (by omega) rfl)
  go_wp2_with fail
  refine C.out.mono ?_
  rintro e w3 ⟨p, g, bm, rfl, hm⟩
  have M := Lib.hid hm
  clear C hm
  have SZ : Hid (St w w3 pz gz bz 0 (fun _ => none) ∧ (pz < p ∧ pz < g ∧ pz < bm) ∧ (gz < p ∧ gz < g ∧ gz < bm) ∧ (bz < p ∧ bz < g ∧ bz < bm)) := by
    obtain ⟨D, r⟩ := Z.out.1.rep
    have h1 := r.pl; have h2 := r.gl; have h3 := r.ml
    obtain ⟨_, m1, m2, m3, m4⟩ := M.out
    exact ⟨⟨M.out.1.below, ⟨D, r.keep m4.size (m4.block _ h1) (m4.block _ h2) (m4.block _ h3)⟩, Z.out.1.bp, Z.out.1.bg, Z.out.1.bb, T.out⟩, by omega, by omega, by omega⟩
  have SM : Hid (St w w3 p g bm 4096 (Seven 0)) := by rw [seven_start]; exact M.out.1
  clear M Z BB
  have C := Lib.hid (st_put_full SZ.out.1 1 (by decide) (fun s => by simp) (fun s hs => by omega))
  go_wp2_with fail
  refine C.out.mono ?_
  rintro e w4 ⟨rfl, hw⟩
  obtain rfl := hw.symm
  clear C hw
  go_wp2_with fail
  go_loopg [5] 4096 (fun kx s5 wr => ∃ k : Nat, s5 = .int .i64 k ∧ k ≤ 4096 ∧ 4096 - k ≤ kx ∧ Aside (St w wr p g bm 4096 (Seven k)) ∧ Aside (Kept3 p g bm w3 wr))
  case atStart => exact ⟨0, rfl, by omega, by omega, SM.out, Kept3.refl _ _ _ _⟩
  case round =>
    clear SM
    obtain ⟨k, rfl, hk, hkx, S, K3⟩ := hrel
    by_cases hlt : k < 4096
    · have hltz : (k : Int) < 4096 := by omega
      have hw7 : IntKind.i64.wrap ((k : Int) * 7) = (k : Int) * 7 := by rw [IntKind.wrap_i64]; omega
      have C := Lib.hid (st_put_new S.out ((k : Int) * 7) (WalkArith.wf_i64 (by omega)) (seven_ne (fun s hs => by omega)) k hlt (by simp [Seven]) (fun s hs => by simp [Seven, hs]))
      rw [seven_step] at C
      go_wp2_with fail
      refine C.out.mono ?_
      rintro e w5 ⟨rfl, S5, K5⟩
      have S' : Aside (St w w5 p g bm 4096 (Seven (k + 1))) := S5
      have K' : Aside (Kept3 p g bm w3 w5) := K3.out.trans K5
      clear C S5 K5 S K3
      go_wp2
      go_roundg (4096 - (k + 1))
      case measure => omega
      case rel => exact ⟨k + 1, by go_num, by omega, Nat.le_refl _, S', K'⟩
    · have hltz : ¬ (k : Int) < 4096 := by omega
      obtain rfl : k = 4096 := by omega
      have C := Lib.hid (st_put_full S.out (-1) (by decide) (seven_ne (fun s hs => by omega)) (fun s hs => by simp [Seven, hs]))
      go_wp2_with fail
      refine C.out.mono ?_
      rintro e w5 ⟨rfl, hw⟩
      obtain rfl := hw.symm
      clear C hw
      have C := Lib.hid (st_get_some S.out 28665 (by decide) 4095 (by simp [Seven]))
      go_wp2_with fail
      refine C.out.mono ?_
      rintro e w5 ⟨rfl, hw⟩
      obtain rfl := hw.symm
      clear C hw
      have C := Lib.hid (st_get_none S.out 8 (by decide) (seven_ne (fun s hs => by omega)))
      go_wp2_with fail
      refine C.out.mono ?_
      rintro e w5 ⟨rfl, hw⟩
      obtain rfl := hw.symm
      clear C hw
      have C := Lib.hid (st_id_none S.out (-1) (.inl (by decide)))
      go_wp2_with fail
      refine C.out.mono ?_
      rintro e w6 ⟨rfl, S6, K6⟩
      have SS := Lib.hid S6
      have KK := Lib.hid (K3.out.trans K6)
      clear C S6 K6 S K3
      have C := Lib.hid (st_drop_none SS.out 8 (by decide) (seven_ne (fun s hs => by omega)))
      go_wp2_with fail
      refine C.out.mono ?_
      rintro e w7 ⟨rfl, hw⟩
      obtain rfl := hw.symm
      clear C hw
      have C := Lib.hid (st_ids (SZ.out.1.beside KK.out (by have := SZ.out.2; omega) (by have := SZ.out.2; omega) (by have := SZ.out.2; omega) SS.out.below))
      go_wp2_with fail
      refine C.out.mono ?_
      rintro e w8 ⟨gi, cap, l, rfl, hi⟩
      have hl : l.length = 0 := hi.len
      rw [hl]
      go_wp2
      go_ret
      exact ⟨rfl, hi.st.below⟩
end Go.Proofs.YtfhnjknlehecgaaDoor
