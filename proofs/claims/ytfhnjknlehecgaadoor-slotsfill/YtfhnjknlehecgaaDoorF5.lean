/- The law SlotsFill walked. -/
import Derived.Test.YtfhnjknlehecgaaDoorR7
namespace Go.Proofs.YtfhnjknlehecgaaDoor
open Go.RowKit Go.Lib Go.Maps Go.Sort
set_option linter.unusedVariables false

/-- The first k ids laid, falling. -/
def Down (k : Nat) : Nat → Option Int := fun s => if s < k then some (1000 - (s : Int)) else none
theorem down_start : Down 0 = fun _ => none := funext fun s => by simp [Down]
theorem down_step (k : Nat) : upd (Down k) k (some (1000 - (k : Int))) = Down (k + 1) := funext fun s => by
  by_cases e : s = k
  · subst e; rw [upd_same]; simp [Down]
  · rw [upd_other _ _ e]
    unfold Down
    by_cases h : s < k
    · rw [if_pos h, if_pos (by omega)]
    · rw [if_neg h, if_neg (by omega)]
theorem down_ne {k : Nat} {y : Int} (h : ∀ s : Nat, s < k → 1000 - (s : Int) ≠ y) : ∀ s, Down k s ≠ some y := fun s => by
  unfold Down
  split
  · rename_i hs; simpa using h s hs
  · simp
theorem down_full {k s : Nat} (h : s < k) : Down k s ≠ none := by simp [Down, h]

theorem last_of {l : List Int} {y : Int} (hr : l.Pairwise (· < ·)) (hy : y ∈ l) (hm : ∀ x ∈ l, x ≤ y) (h : l.length - 1 < l.length) : l[l.length - 1] = y := by
  obtain ⟨i, hi, e⟩ := List.mem_iff_getElem.1 hy
  by_cases q : i = l.length - 1
  · subst q; exact e
  · have := List.pairwise_iff_getElem.1 hr i (l.length - 1) hi h (by omega)
    have h2 := hm _ (List.getElem_mem h)
    omega

set_option maxRecDepth 100000 in
set_option maxHeartbeats 4000000 in
theorem fill_walk (na nb : Nat) (ha : na < 65536) (hb : nb < 65536) (w : World) (hT : Tab w) : Calls Tryd.prog 4 #[.int .u16 na, .int .u16 nb] w fun e w' => e = .returned (.bool true) ∧ Below w.heap.size w w' := by
  have T := Lib.hid hT
  clear hT
  have C7 := Lib.hid (awake_true w T.out)
  obtain ⟨k, hk⟩ : ∃ k, k = na % 300 := ⟨_, rfl⟩
  have hk3 : k < 300 := by omega
  have d3 : (na : Int) % 300 = (k : Int) := by omega
  have d4 : (na : Int).tmod 300 = (k : Int) := by rw [Int.tmod_eq_emod_of_nonneg (by omega)]; exact d3
  have wa : IntKind.i64.wrap (na : Int) = (na : Int) := by rw [IntKind.wrap_i64]; omega
  have wb : IntKind.i64.wrap (nb : Int) = (nb : Int) := by rw [IntKind.wrap_i64]; omega
  clear hk
  go_enter Tryd.func4, Tryd.ntmps4
  go_wp2_with fail
  refine C7.out.mono ?_
  rintro e w1 ⟨rfl, B1⟩
  have BB := Lib.hid B1
  clear C7 B1
  have C := Lib.hid (st_new BB.out T.out (k : Int) k (by omega) (by rw [if_neg (by omega)]))
  go_wp2_with fail
  refine C.out.mono ?_
  rintro e w2 ⟨p, g, bm, rfl, hm⟩
  have SM : Hid (St w w2 p g bm k (Down 0)) := by rw [down_start]; exact hm
  clear C hm BB
  go_wp2_with fail
  go_loopg [7] k (fun kx s7 wr => ∃ i : Nat, s7 = .int .i64 i ∧ i ≤ k ∧ k - i ≤ kx ∧ Aside (St w wr p g bm k (Down i)))
  case atStart => exact ⟨0, rfl, by omega, by omega, SM.out⟩
  case round =>
    clear SM
    obtain ⟨i, rfl, hi, hkx, S⟩ := hrel
    by_cases hlt : i < k
    · have hltz : (i : Int) < (k : Int) := by omega
      have hw7 : IntKind.i64.wrap (1000 - (i : Int)) = 1000 - (i : Int) := by rw [IntKind.wrap_i64]; omega
      have C := Lib.hid (st_put_new S.out (1000 - (i : Int)) (WalkArith.wf_i64 (by omega)) (down_ne (fun s hs => by omega)) i hlt (by simp [Down]) (fun s hs => down_full hs))
      rw [down_step] at C
      go_wp2_with fail
      refine C.out.mono ?_
      rintro e w5 ⟨rfl, S5, K5⟩
      have S' : Aside (St w w5 p g bm k (Down (i + 1))) := S5
      clear C S5 K5 S
      go_wp2
      go_roundg (k - (i + 1))
      case measure => omega
      case rel => exact ⟨i + 1, by go_num, by omega, Nat.le_refl _, S'⟩
    · have hltz : ¬ (i : Int) < (k : Int) := by omega
      obtain rfl : k = i := by omega
      have C := Lib.hid (st_put_full S.out 5000 (by decide) (down_ne (fun s hs => by omega)) (fun s hs => down_full hs))
      go_wp2_with fail
      refine C.out.mono ?_
      rintro e w5 ⟨rfl, hw⟩
      obtain rfl := hw.symm
      clear C hw
      have C := Lib.hid (st_len S.out)
      rw [cnt_full k (fun s hs => down_full hs)] at C
      go_wp2_with fail
      refine C.out.mono ?_
      rintro e w5 ⟨rfl, hw⟩
      obtain rfl := hw.symm
      clear C hw
      by_cases h0 : k = 0
      · subst h0
        go_wp2
        go_ret
        exact ⟨rfl, S.out.below⟩
      · have hkb : ((k : Int) == 0) = false := by simp; omega
        have hk0 : ¬ (k : Int) = 0 := by omega
        obtain ⟨d, hd⟩ : ∃ d, d = nb % k := ⟨_, rfl⟩
        have hdk : d < k := by rw [hd]; exact Nat.mod_lt _ (by omega)
        have q3 : (nb : Int) % (k : Int) = (d : Int) := by rw [hd]; omega
        have q4 : (nb : Int).tmod (k : Int) = (d : Int) := by rw [Int.tmod_eq_emod_of_nonneg (by omega)]; exact q3
        have hw8 : IntKind.i64.wrap (1000 - (d : Int)) = 1000 - (d : Int) := by rw [IntKind.wrap_i64]; omega
        clear hd
        have C := Lib.hid (st_drop_some S.out (1000 - (d : Int)) (WalkArith.wf_i64 (by omega)) d (by simp [Down, hdk]))
        go_wp2_with fail
        refine C.out.mono ?_
        rintro e w5 ⟨rfl, S5, K5⟩
        have S2 := Lib.hid S5
        clear C S5 K5 S
        have C := Lib.hid (st_put_new S2.out 5000 (by decide) (upd_none_ne (fun s _ => down_ne (fun s hs => by omega) s)) d hdk (upd_same _ _ _) (fun s hs => by rw [upd_other _ _ (by omega)]; exact down_full (by omega)))
        go_wp2_with fail
        refine C.out.mono ?_
        rintro e w6 ⟨rfl, S5, K5⟩
        clear S2
        have S2 := Lib.hid S5
        clear C S5 K5
        have C := Lib.hid (st_id_some S2.out d 5000 (upd_same _ _ _))
        go_wp2_with fail
        refine C.out.mono ?_
        rintro e w7 ⟨rfl, S5, K5⟩
        clear S2
        have S2 := Lib.hid S5
        clear C S5 K5
        have C := Lib.hid (st_ids S2.out)
        go_wp2_with fail
        refine C.out.mono ?_
        rintro e w8 ⟨gi, cap, l, rfl, hi⟩
        have hl : l.length = k := by
          rw [hi.len]
          refine cnt_full k (fun s hs => ?_)
          by_cases e : s = d
          · subst e; rw [upd_same]; simp
          · rw [upd_other _ _ e, upd_other _ _ e]; exact down_full hs
        have hlk : l.length - 1 < l.length := by omega
        have hlast : l[l.length - 1] = 5000 := last_of hi.rise ((hi.mem 5000).2 ⟨d, upd_same _ _ _⟩) (fun x hx => by
          obtain ⟨s, hs⟩ := (hi.mem x).1 hx
          by_cases e : s = d
          · subst e; rw [upd_same] at hs; have := Option.some.inj hs; omega
          · rw [upd_other _ _ e, upd_other _ _ e] at hs
            unfold Down at hs
            split at hs
            · have := Option.some.inj hs; omega
            · cases hs) hlk
        have cl := hi.cell (l.length - 1) hlk
        rw [hlast, hl] at cl
        have BE := Lib.hid hi.st.below
        rw [hl]
        have wk : IntKind.i64.wrap ((k : Int) - 1) = (k : Int) - 1 := by rw [IntKind.wrap_i64]; omega
        obtain ⟨k1, rfl⟩ : ∃ k1, k = k1 + 1 := ⟨k - 1, by omega⟩
        have ek : ((k1 + 1 : Nat) : Int) - 1 = (k1 : Int) := by omega
        rw [show k1 + 1 - 1 = k1 by omega] at cl
        clear hi C S2 hlast hlk hl
        go_wp2
        go_ret
        exact ⟨rfl, BE.out⟩
end Go.Proofs.YtfhnjknlehecgaaDoor
