/- The table of slots: contracts of Get, Len, ID, Put, Drop. -/
import Derived.Test.YtlpjojegdnconaaDoorR2
namespace Go.Proofs.YtlpjojegdnconaaDoor
open Go.RowKit Go.Lib Go.Maps
set_option linter.unusedVariables false

theorem zero3 (w : World) : (zeroValue 3).run Tryd.prog w = .ok (.int .i64 0) w := by kernel_rfl

theorem get_some (p g bm n : Nat) (A : Nat → Option Int) (D : DataW Unit) (w : World) (h : Rep w p g bm n A D) (x : Int) (hx : (Lit.int .i64 x).wf = true) (s : Nat) (hs : A s = some x) :
    Calls Tryd.prog 49 #[.pointer (some ⟨p, 0, none⟩), .int .i64 x] w fun e w' => e = .returned (.tuple #[.int .i64 s, .bool true]) ∧ w' = w := by
  have c1 := h.mp
  have OWN := Lib.hid h.own
  have HH := Lib.hid ((h.map.has x).2 ⟨s, hs⟩)
  have HA := Lib.hid (h.map.at_ s x hs (.lit (.int .i64 0)))
  clear h hs
  go_enter Tryd.func49, Tryd.ntmps49
  go_wp2_with (at_lookup; refine wpList_lookup_own_ok_int _ rfl _ _ 62 rfl 3 3 .i64 law3 Tryd.underlying62 Tryd.underlying3 (zero3 _) bm _ D rfl OWN.out _ _ rfl (keyOf_int_mk Tryd.underlying3 hx) ?_; intro c hat hwc; obtain rfl : (s : Int) = c := (by have := HA.out.symm.trans hat; cases this; rfl); rw [HH.out]; clear hat hwc)
  go_ret2
  exact ⟨rfl, rfl⟩

theorem get_none (p g bm n : Nat) (A : Nat → Option Int) (D : DataW Unit) (w : World) (h : Rep w p g bm n A D) (x : Int) (hx : (Lit.int .i64 x).wf = true) (hs : ∀ s, A s ≠ some x) :
    Calls Tryd.prog 49 #[.pointer (some ⟨p, 0, none⟩), .int .i64 x] w fun e w' => e = .returned (.tuple #[.int .i64 0, .bool false]) ∧ w' = w := by
  have c1 := h.mp
  have OWN := Lib.hid h.own
  have HH := Lib.hid (h.map.not_has hs)
  have HA := Lib.hid (atKey_of_not_has (h.map.not_has hs) (.lit (.int .i64 0)))
  clear h hs
  go_enter Tryd.func49, Tryd.ntmps49
  go_wp2_with (at_lookup; refine wpList_lookup_own_ok_int _ rfl _ _ 62 rfl 3 3 .i64 law3 Tryd.underlying62 Tryd.underlying3 (zero3 _) bm _ D rfl OWN.out _ _ rfl (keyOf_int_mk Tryd.underlying3 hx) ?_; intro c hat hwc; obtain rfl : (0 : Int) = c := (by have := HA.out.symm.trans hat; cases this; rfl); rw [HH.out]; clear hat hwc)
  go_ret2
  exact ⟨rfl, rfl⟩

/-- ID where no such slot is taken. -/
theorem id_none (p g bm n : Nat) (A : Nat → Option Int) (D : DataW Unit) (w : World) (h : Rep w p g bm n A D) (x : Int) (hx : x < 0 ∨ (n : Int) ≤ x ∨ ∃ s : Nat, x = s ∧ A s = none) :
    Calls Tryd.prog 36 #[.pointer (some ⟨p, 0, none⟩), .int .i64 x] w fun e w' => e = .returned (.tuple #[.int .i64 0, .bool false]) ∧ (w' = w ∨ w' = w.drew) := by
  have c0 := h.ids
  by_cases h0 : x < 0
  · have d0 : decide (x < 0) = true := by simpa using h0
    clear h hx
    go_enter Tryd.func36, Tryd.ntmps36
    go_wp2_with fail
    go_ret2
    exact ⟨rfl, .inl rfl⟩
  · have d0 : decide (x < 0) = false := by simpa using h0
    by_cases h1 : (n : Int) ≤ x
    · have d1 : decide (x ≥ (n : Int)) = true := by simpa using h1
      clear h hx
      go_enter Tryd.func36, Tryd.ntmps36
      go_wp2_with fail
      go_ret2
      exact ⟨rfl, .inl rfl⟩
    · have d1 : decide (x ≥ (n : Int)) = false := by simp; omega
      obtain ⟨s, rfl, hs⟩ : ∃ s : Nat, x = s ∧ A s = none := by
        rcases hx with a | a | a
        · exact absurd a h0
        · exact absurd a h1
        · exact a
      have hn := h.n4
      have d2 : s < n := by omega
      have ch := has_any p s _ w (by omega) h.room
      rw [show (decide (s < n) && (A s).isNone) = true by rw [hs]; simp; omega] at ch
      have CH := Lib.hid ch
      clear ch h hs h0 h1 hx
      go_enter Tryd.func36, Tryd.ntmps36
      go_wp2_with (go_at_call 51; refine CH.out.mono ?_; rintro e w' ⟨rfl, rfl⟩)
      go_ret2
      exact ⟨rfl, .inr rfl⟩

theorem id_some (p g bm n : Nat) (A : Nat → Option Int) (D : DataW Unit) (w : World) (h : Rep w p g bm n A D) (s : Nat) (y : Int) (hs : A s = some y) :
    Calls Tryd.prog 36 #[.pointer (some ⟨p, 0, none⟩), .int .i64 s] w fun e w' => e = .returned (.tuple #[.int .i64 y, .bool true]) ∧ w' = w.drew := by
  have c0 := h.ids
  have hlt : s < n := by
    rcases Nat.lt_or_ge s n with a | a
    · exact a
    · rw [h.out s a] at hs; cases hs
  have hn := h.n4
  have d0 : decide ((s : Int) < 0) = false := by simp
  have d1 : decide ((s : Int) ≥ (n : Int)) = false := by simp; omega
  have hz : (s : Int) < (n : Int) := by omega
  obtain ⟨v, cv, hv⟩ := h.cell s hlt
  obtain rfl := hv y hs
  have ch := has_any p s _ w (by omega) h.room
  rw [show (decide (s < n) && (A s).isNone) = false by rw [hs]; simp] at ch
  have CH := Lib.hid ch
  clear ch h hs hv
  go_enter Tryd.func36, Tryd.ntmps36
  go_wp2_with (go_at_call 51; refine CH.out.mono ?_; rintro e w' ⟨rfl, rfl⟩)
  go_ret2
  exact ⟨rfl, rfl⟩
end Go.Proofs.YtlpjojegdnconaaDoor
