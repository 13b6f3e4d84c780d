/- The room of free slots: contracts of its functions, in the words of a set. -/
import Derived.Test.YtlpjojegdnconaaDoorBt
import Derived.Test.YtlpjojegdnconaaDoorChecked
import Derived.WalkKit
import Derived.StillTailTactics
import Derived.Lib.Hide
import Derived.IntWalk
import Derived.Shelf.Spec.TrailingZeros
namespace Go.Proofs.YtlpjojegdnconaaDoor
open Go.RowKit Go.Lib
set_option linter.unusedVariables false

theorem bit_any (n : Nat) (hn : n < 64) (w : World) : Calls Tryd.prog 58 #[.int .i64 n] w fun e w' => e = .returned (.int .u64 ((2 ^ n : Nat) : Int)) ∧ w' = w := by
  have h0 : ¬ (n : Int) < 0 := by omega
  have h1 : (n : Int) < 64 := by omega
  have h2 : IntKind.u64.wrap (2 ^ n) = ((2 ^ n : Nat) : Int) := by
    have := two_pow_lt hn
    have e : (2 : Int) ^ n = ((2 ^ n : Nat) : Int) := by simp
    rw [IntKind.wrap_u64, e]; generalize 2 ^ n = x at this; omega
  go_enter Tryd.func58, Tryd.ntmps58
  go_wp2
  go_ret
  exact ⟨by simp, rfl⟩

/-- A call that turned cells of one block alone. -/
structure Turn (p : Nat) (w w' : World) : Prop where
  gr : w.grownBy w' (some p)
  size : w'.heap.size = w.heap.size
  fr : ∀ o, w'.frozen? ⟨p, o, none⟩ = w.frozen? ⟨p, o, none⟩
theorem Turn.refl (p : Nat) (w : World) : Turn p w w := ⟨⟨rfl, rfl, rfl, Nat.le_refl _, fun _ _ _ => rfl⟩, rfl, fun _ => rfl⟩
theorem Turn.drew {p : Nat} {w w' : World} (h : Turn p w w') : Turn p w w'.drew := ⟨⟨h.gr.os, h.gr.tape, h.gr.output, h.gr.size, h.gr.block⟩, h.size, h.fr⟩
theorem Turn.set {p : Nat} {w w' : World} (h : Turn p w w') (o : Nat) (v : Value) : Turn p w (w'.setCell ⟨p, o, none⟩ v) :=
  ⟨⟨h.gr.os, h.gr.tape, h.gr.output, by simpa using h.gr.size, fun k hk hne => (Below.heap_setCell w' _ v k (fun e => hne (by rw [e]))).trans (h.gr.block k hk hne)⟩, by simpa using h.size, fun o' => by simpa using h.fr o'⟩
theorem Turn.trans {p : Nat} {w w' w'' : World} (h : Turn p w w') (g : Turn p w' w'') : Turn p w w'' :=
  ⟨⟨g.gr.os.trans h.gr.os, g.gr.tape.trans h.gr.tape, g.gr.output.trans h.gr.output, Nat.le_trans h.gr.size g.gr.size, fun k hk hne => (g.gr.block k (by rw [h.size]; exact hk) hne).trans (h.gr.block k hk hne)⟩, g.size.trans h.size, fun o => (g.fr o).trans (h.fr o)⟩

theorem set_same (w : World) (p o : Nat) (v : Value) {u : Value} (h : w.cell? ⟨p, o, none⟩ = some u) : (w.setCell ⟨p, o, none⟩ v).drew.cell? ⟨p, o, none⟩ = some v := World.cell?_setCell_same w _ v h
theorem set_other (w : World) (p o o' : Nat) (v : Value) (h : o' ≠ o) : (w.setCell ⟨p, o, none⟩ v).drew.cell? ⟨p, o', none⟩ = w.cell? ⟨p, o', none⟩ := World.cell?_setCell_other w _ _ v (fun e => h (by cases e; rfl))

set_option maxRecDepth 100000 in
theorem add_at (p s k j f S : Nat) (hs : s = 64 * k + j) (hk : k < 64) (hj : j < 64) (hf : f < 18446744073709551616) (hS : S < 18446744073709551616) (w : World)
    (c : w.cell? ⟨p, 2 + k, none⟩ = some (.int .u64 f)) (cs : w.cell? ⟨p, 66, none⟩ = some (.int .u64 S)) (z : w.frozen? ⟨p, 2 + k, none⟩ = false) (zs : w.frozen? ⟨p, 66, none⟩ = false) :
    Calls Tryd.prog 46 #[.pointer (some ⟨p, 2, none⟩), .int .i64 s] w fun e w' => e = .returned (.tuple #[]) ∧ Turn p w w' ∧ w'.cell? ⟨p, 2 + k, none⟩ = some (.int .u64 ((f ||| 2 ^ j : Nat) : Int)) ∧ w'.cell? ⟨p, 66, none⟩ = some (.int .u64 ((S ||| 2 ^ k : Nat) : Int)) ∧ ∀ o, o ≠ 2 + k → o ≠ 66 → w'.cell? ⟨p, o, none⟩ = w.cell? ⟨p, o, none⟩ := by
  have mixed : Tryd.prog.follows .mixedOrders = true := by kernel_rfl
  have d1 : (s : Int) / 64 = (k : Int) := by omega
  have d2 : (s : Int).tdiv 64 = (k : Int) := by rw [Int.tdiv_eq_ediv_of_nonneg (by omega)]; exact d1
  have d3 : (s : Int) % 64 = (j : Int) := by omega
  have d4 : (s : Int).tmod 64 = (j : Int) := by rw [Int.tmod_eq_emod_of_nonneg (by omega)]; exact d3
  obtain ⟨f', hf'⟩ : ∃ f', f' = f ||| 2 ^ j := ⟨_, rfl⟩
  obtain ⟨S', hS'⟩ : ∃ S', S' = S ||| 2 ^ k := ⟨_, rfl⟩
  have e1 := bits_or_u64_nat f (2 ^ j) hf (two_pow_lt hj)
  have e2 := bits_or_u64_nat S (2 ^ k) hS (two_pow_lt hk)
  rw [← hf'] at e1 ⊢
  rw [← hS'] at e2 ⊢
  obtain ⟨bj, hbj⟩ : ∃ bj, bj = 2 ^ j := ⟨_, rfl⟩
  obtain ⟨bk, hbk⟩ : ∃ bk, bk = 2 ^ k := ⟨_, rfl⟩
  have cj := fun W => bit_any j hj W
  have ck := fun W => bit_any k hk W
  rw [← hbj] at e1 cj
  rw [← hbk] at e2 ck
  have hkj : 66 ≠ 2 + k := by omega
  clear hf' hS' hbj hbk hs
  have hkz : (k : Int) < 64 := by omega
  have hk0 : (0 : Int) ≤ (k : Int) := by omega
  go_enter Tryd.func46, Tryd.ntmps46
  go_wp2_with fail
  refine wp_region_still_tail 13 mixed (by kernel_rfl) ?_
  simp only [List.take_succ_cons, List.take_zero, List.drop_succ_cons, List.drop_zero]
  repeat (first | still_call (cj _) | still_step)
  refine wpStill_nil ?_
  go_wp2_with fail
  have T1 : Turn p w (w.setCell ⟨p, 2 + k, none⟩ (.int .u64 f')).drew := ((Turn.refl p w).set _ _).drew
  have c1 := (set_other w p (2 + k) 66 (.int .u64 f') hkj).trans cs
  have c2 := set_same w p (2 + k) (.int .u64 f') c
  have c3 := fun o ho => set_other w p (2 + k) o (.int .u64 f') ho
  have z1 : (w.setCell ⟨p, 2 + k, none⟩ (.int .u64 f')).drew.frozen? ⟨p, 66, none⟩ = false := (T1.fr 66).trans zs
  generalize (w.setCell ⟨p, 2 + k, none⟩ (.int .u64 f')).drew = W1 at *
  have H := Lib.hid c3
  clear c3
  refine wp_region_still_tail 9 mixed (by kernel_rfl) ?_
  simp only [List.take_succ_cons, List.take_zero, List.drop_succ_cons, List.drop_zero]
  repeat (first | still_call (ck _) | still_step)
  refine wpStill_nil ?_
  go_wp2_with fail
  refine bodyPost_end (v := .tuple #[]) (by simp [results, Tryd.results46, go_sem]) rfl ?_
  exact ⟨rfl, (T1.set _ _).drew, (set_other W1 p 66 (2 + k) _ (Ne.symm hkj)).trans c2, set_same W1 p 66 _ c1, fun o h1 h2 => (set_other W1 p 66 o _ h2).trans (H.out o h1)⟩

set_option maxRecDepth 100000 in
theorem remove_at (p s k j f S f' : Nat) (hs : s = 64 * k + j) (hk : k < 64) (hj : j < 64) (hf : f < 18446744073709551616) (hS : S < 18446744073709551616) (hf' : f' = f &&& (18446744073709551615 ^^^ 2 ^ j)) (w : World)
    (c : w.cell? ⟨p, 2 + k, none⟩ = some (.int .u64 f)) (cs : w.cell? ⟨p, 66, none⟩ = some (.int .u64 S)) (z : w.frozen? ⟨p, 2 + k, none⟩ = false) (zs : w.frozen? ⟨p, 66, none⟩ = false) :
    Calls Tryd.prog 48 #[.pointer (some ⟨p, 2, none⟩), .int .i64 s] w fun e w' => e = .returned (.tuple #[]) ∧ Turn p w w' ∧ w'.cell? ⟨p, 2 + k, none⟩ = some (.int .u64 f') ∧ w'.cell? ⟨p, 66, none⟩ = some (.int .u64 ((if f' = 0 then S &&& (18446744073709551615 ^^^ 2 ^ k) else S : Nat) : Int)) ∧ ∀ o, o ≠ 2 + k → o ≠ 66 → w'.cell? ⟨p, o, none⟩ = w.cell? ⟨p, o, none⟩ := by
  have mixed : Tryd.prog.follows .mixedOrders = true := by kernel_rfl
  have d1 : (s : Int) / 64 = (k : Int) := by omega
  have d2 : (s : Int).tdiv 64 = (k : Int) := by rw [Int.tdiv_eq_ediv_of_nonneg (by omega)]; exact d1
  have d3 : (s : Int) % 64 = (j : Int) := by omega
  have d4 : (s : Int).tmod 64 = (j : Int) := by rw [Int.tmod_eq_emod_of_nonneg (by omega)]; exact d3
  obtain ⟨S', hS'⟩ : ∃ S', S' = S &&& (18446744073709551615 ^^^ 2 ^ k) := ⟨_, rfl⟩
  have e1 := bits_andNot_u64_nat f (2 ^ j) hf (two_pow_lt hj)
  have e2 := bits_andNot_u64_nat S (2 ^ k) hS (two_pow_lt hk)
  rw [← hf'] at e1
  rw [← hS'] at e2 ⊢
  obtain ⟨bj, hbj⟩ : ∃ bj, bj = 2 ^ j := ⟨_, rfl⟩
  obtain ⟨bk, hbk⟩ : ∃ bk, bk = 2 ^ k := ⟨_, rfl⟩
  have cj := fun W => bit_any j hj W
  have ck := fun W => bit_any k hk W
  rw [← hbj] at e1 cj
  rw [← hbk] at e2 ck
  have hkj : 66 ≠ 2 + k := by omega
  clear hf' hS' hbj hbk hs
  have hkz : (k : Int) < 64 := by omega
  have hk0 : (0 : Int) ≤ (k : Int) := by omega
  by_cases f0 : f' = 0
  · rw [if_pos f0]
    have hb : ((f' : Int) == 0) = true := by simp [f0]
    clear f0
    go_enter Tryd.func48, Tryd.ntmps48
    go_wp2_with fail
    refine wp_region_still_tail 13 mixed (by kernel_rfl) ?_
    simp only [List.take_succ_cons, List.take_zero, List.drop_succ_cons, List.drop_zero]
    repeat (first | still_call (cj _) | still_step)
    refine wpStill_nil ?_
    go_wp2_with fail
    have T1 : Turn p w (w.setCell ⟨p, 2 + k, none⟩ (.int .u64 f')).drew := ((Turn.refl p w).set _ _).drew
    have c1 := (set_other w p (2 + k) 66 (.int .u64 f') hkj).trans cs
    have c2 := set_same w p (2 + k) (.int .u64 f') c
    have c3 := fun o ho => set_other w p (2 + k) o (.int .u64 f') ho
    have z1 : (w.setCell ⟨p, 2 + k, none⟩ (.int .u64 f')).drew.frozen? ⟨p, 66, none⟩ = false := (T1.fr 66).trans zs
    generalize (w.setCell ⟨p, 2 + k, none⟩ (.int .u64 f')).drew = W1 at *
    have H := Lib.hid c3
    clear c3
    go_wp2_with fail
    refine wp_region_still_tail 9 mixed (by kernel_rfl) ?_
    simp only [List.take_succ_cons, List.take_zero, List.drop_succ_cons, List.drop_zero]
    repeat (first | still_call (ck _) | still_step)
    refine wpStill_nil ?_
    go_wp2_with fail
    refine bodyPost_end (v := .tuple #[]) (by simp [results, Tryd.results48, go_sem]) rfl ?_
    exact ⟨rfl, (T1.set _ _).drew, (set_other W1 p 66 (2 + k) _ (Ne.symm hkj)).trans c2, set_same W1 p 66 _ c1, fun o h1 h2 => (set_other W1 p 66 o _ h2).trans (H.out o h1)⟩
  · rw [if_neg f0]
    have hb : ((f' : Int) == 0) = false := by simp; omega
    clear f0
    go_enter Tryd.func48, Tryd.ntmps48
    go_wp2_with fail
    refine wp_region_still_tail 13 mixed (by kernel_rfl) ?_
    simp only [List.take_succ_cons, List.take_zero, List.drop_succ_cons, List.drop_zero]
    repeat (first | still_call (cj _) | still_step)
    refine wpStill_nil ?_
    go_wp2_with fail
    have T1 : Turn p w (w.setCell ⟨p, 2 + k, none⟩ (.int .u64 f')).drew := ((Turn.refl p w).set _ _).drew
    have c1 := (set_other w p (2 + k) 66 (.int .u64 f') hkj).trans cs
    have c2 := set_same w p (2 + k) (.int .u64 f') c
    have c3 := fun o ho => set_other w p (2 + k) o (.int .u64 f') ho
    generalize (w.setCell ⟨p, 2 + k, none⟩ (.int .u64 f')).drew = W1 at *
    have H := Lib.hid c3
    clear c3
    go_wp2_with fail
    refine bodyPost_end (v := .tuple #[]) (by simp [results, Tryd.results48, go_sem]) rfl ?_
    exact ⟨rfl, T1, c2, c1, fun o h1 h2 => H.out o h1⟩

/-! ### in the words of a set -/
structure RoomAt (w : World) (p : Nat) (F : Nat → Nat) (S : Nat) : Prop where
  c : ∀ k, k < 64 → w.cell? ⟨p, 2 + k, none⟩ = some (.int .u64 (F k))
  s : w.cell? ⟨p, 66, none⟩ = some (.int .u64 S)
  z : ∀ o, w.frozen? ⟨p, o, none⟩ = false
/-- The free slots of the table at block p. -/
def Room (w : World) (p : Nat) (free : Nat → Bool) : Prop := ∃ F S, Bits F S free ∧ RoomAt w p F S

theorem add_any (p s : Nat) (free : Nat → Bool) (w : World) (hs : s < 4096) (h : Room w p free) :
    Calls Tryd.prog 46 #[.pointer (some ⟨p, 2, none⟩), .int .i64 s] w fun e w' => e = .returned (.tuple #[]) ∧ Turn p w w' ∧ Room w' p (upd free s true) ∧ ∀ o, (o < 2 ∨ 67 ≤ o) → w'.cell? ⟨p, o, none⟩ = w.cell? ⟨p, o, none⟩ := by
  obtain ⟨F, S, hb, r⟩ := h
  refine (add_at p s (s / 64) (s % 64) (F (s / 64)) S (by omega) (by omega) (by omega) (hb.lt _ (by omega)) hb.slt w (r.c _ (by omega)) r.s (r.z _) (r.z _)).mono ?_
  rintro e w' ⟨rfl, t, c1, c2, c3⟩
  refine ⟨rfl, t, ⟨_, _, hb.add s hs, ⟨fun k hk => ?_, c2, fun o => (t.fr o).trans (r.z o)⟩⟩, fun o ho => c3 o (by omega) (by omega)⟩
  by_cases e : k = s / 64
  · subst e; rw [upd_same]; exact c1
  · rw [upd_other _ _ e, c3 _ (by omega) (by omega)]; exact r.c k hk

theorem remove_any (p s : Nat) (free : Nat → Bool) (w : World) (hs : s < 4096) (h : Room w p free) :
    Calls Tryd.prog 48 #[.pointer (some ⟨p, 2, none⟩), .int .i64 s] w fun e w' => e = .returned (.tuple #[]) ∧ Turn p w w' ∧ Room w' p (upd free s false) ∧ ∀ o, (o < 2 ∨ 67 ≤ o) → w'.cell? ⟨p, o, none⟩ = w.cell? ⟨p, o, none⟩ := by
  obtain ⟨F, S, hb, r⟩ := h
  refine (remove_at p s (s / 64) (s % 64) (F (s / 64)) S _ (by omega) (by omega) (by omega) (hb.lt _ (by omega)) hb.slt rfl w (r.c _ (by omega)) r.s (r.z _) (r.z _)).mono ?_
  rintro e w' ⟨rfl, t, c1, c2, c3⟩
  refine ⟨rfl, t, ⟨_, _, hb.remove s hs _ rfl, ⟨fun k hk => ?_, c2, fun o => (t.fr o).trans (r.z o)⟩⟩, fun o ho => c3 o (by omega) (by omega)⟩
  by_cases e : k = s / 64
  · subst e; rw [upd_same]; exact c1
  · rw [upd_other _ _ e, c3 _ (by omega) (by omega)]; exact r.c k hk

set_option maxRecDepth 100000 in
/-- Whether a slot is free. -/
theorem has_any (p s : Nat) (free : Nat → Bool) (w : World) (hs : s < 4096) (h : Room w p free) :
    Calls Tryd.prog 51 #[.pointer (some ⟨p, 2, none⟩), .int .i64 s] w fun e w' => e = .returned (.bool (free s)) ∧ w' = w.drew := by
  obtain ⟨F, S, hb, r⟩ := h
  have mixed : Tryd.prog.follows .mixedOrders = true := by kernel_rfl
  obtain ⟨k, hk'⟩ : ∃ k, k = s / 64 := ⟨_, rfl⟩
  obtain ⟨j, hj'⟩ : ∃ j, j = s % 64 := ⟨_, rfl⟩
  have hk : k < 64 := by omega
  have hj : j < 64 := by omega
  have d1 : (s : Int) / 64 = (k : Int) := by omega
  have d2 : (s : Int).tdiv 64 = (k : Int) := by rw [Int.tdiv_eq_ediv_of_nonneg (by omega)]; exact d1
  have d3 : (s : Int) % 64 = (j : Int) := by omega
  have d4 : (s : Int).tmod 64 = (j : Int) := by rw [Int.tmod_eq_emod_of_nonneg (by omega)]; exact d3
  have hh := hb.has s hs
  rw [← hk', ← hj'] at hh
  have e1 := bits_and_u64_nat (F k) (2 ^ j) (hb.lt k hk) (two_pow_lt hj)
  obtain ⟨x, hx⟩ : ∃ x, x = F k &&& 2 ^ j := ⟨_, rfl⟩
  have hz : ((x : Int) != 0) = free s := by rw [← hh, hx]; simp [bne, BEq.beq, Int.natCast_eq_zero]
  have c := r.c k hk
  rw [← hx] at e1
  obtain ⟨bj, hbj⟩ : ∃ bj, bj = 2 ^ j := ⟨_, rfl⟩
  have cj := fun W => bit_any j hj W
  rw [← hbj] at e1 cj
  clear hx hbj hk' hj' hh
  generalize F k = f at *
  have hkz : (k : Int) < 64 := by omega
  have hk0 : (0 : Int) ≤ (k : Int) := by omega
  have hkw : IntKind.i64.wrap (k : Int) = (k : Int) := by rw [IntKind.wrap_i64]; omega
  go_enter Tryd.func51, Tryd.ntmps51
  go_wp2_with fail
  refine wp_region_still_lit mixed (by kernel_rfl) ?_
  repeat (first | still_call (cj _) | still_step)
  refine wpStill_nil ?_
  go_wp2_with fail
  go_ret
  exact ⟨rfl, rfl⟩

/-! ### the lowest bit -/
def tabB : Nat := 0
/-- The library's table. -/
def Tab (w : World) : Prop := ∀ j, j < 64 → w.cell? ⟨tabB, j, none⟩ = some (.int .u8 (Lib.deBruijn64tab.getD j 0))

theorem ctz_core (x k idx : Nat) (w : World) (hb : ((x : Int) == 0) = false)
    (key : IntKind.u64.wrap (bits BinOp.and IntKind.u64 (x : Int) (IntKind.u64.wrap (-(x : Int))) * 285870213051353865) / 288230376151711744 = (idx : Int))
    (hi : idx < 64) (hk : k < 64) (hcell : w.cell? ⟨0, idx, none⟩ = some (.int .u8 k)) :
    Calls Tryd.prog 59 #[.int .u64 x] w fun e w' => e = .returned (.int .i64 k) ∧ w' = w := by
  go_enter Tryd.func59, Tryd.ntmps59
  go_wp2_with (simp only [key])
  go_ret
  exact ⟨rfl, rfl⟩

theorem ctz_any (x : Nat) (hx : x < 18446744073709551616) (hx0 : x ≠ 0) (w : World) (hT : Tab w) : Calls Tryd.prog 59 #[.int .u64 x] w fun e w' => e = .returned (.int .i64 (Lib.ctz 64 x)) ∧ w' = w := by
  obtain ⟨hlow, hk⟩ := Lib.lowest_bit 64 x hx0 hx
  obtain ⟨hi, htab⟩ := Lib.deBruijn64_at _ hk
  have hcell := hT _ hi
  rw [htab] at hcell
  exact ctz_core x _ _ w (by simp; omega) (tz64_key x _ hx hx0 hlow) hi hk hcell

theorem least_some (p : Nat) (free : Nat → Bool) (w : World) (h : Room w p free) (hT : Tab w) (m : Nat) (hm : free m = true) (hl : ∀ s, s < m → free s = false) (hm4 : m < 4096) :
    Calls Tryd.prog 47 #[.pointer (some ⟨p, 2, none⟩)] w fun e w' => e = .returned (.tuple #[.int .i64 m, .bool true]) ∧ w' = w := by
  obtain ⟨F, S, hb, r⟩ := h
  have hS : S ≠ 0 := fun e => by subst e; rw [hb.none m hm4] at hm; cases hm
  obtain ⟨a1, a2, a3, a4, a5⟩ := hb.least hS
  have c1 := ctz_any S hb.slt hS w hT
  have c2 := ctz_any (F (Lib.ctz 64 S)) (hb.lt _ a1) a2 w hT
  generalize Lib.ctz 64 S = k at *
  have cf := r.c k a1
  generalize Lib.ctz 64 (F k) = j at *
  generalize F k = f at *
  have e : k * 64 + j = m := by
    rcases Nat.lt_trichotomy (k * 64 + j) m with q | q | q
    · rw [hl _ q] at a4; cases a4
    · exact q
    · rw [a5 _ q] at hm; cases hm
  have cs := r.s
  have hb0 : ((S : Int) == 0) = false := by simp; omega
  have hk0 : (0 : Int) ≤ (k : Int) := by omega
  have hkz : (k : Int) < 64 := by omega
  have ez : (k : Int) * 64 + (j : Int) = (m : Int) := by omega
  have ew : IntKind.i64.wrap (m : Int) = (m : Int) := by rw [IntKind.wrap_i64]; omega
  have ek : IntKind.i64.wrap ((k : Int) * 64) = (k : Int) * 64 := by rw [IntKind.wrap_i64]; omega
  clear e hb r hm hl a2 a4 a5 hT
  go_enter Tryd.func47, Tryd.ntmps47
  go_wp2_with fail
  refine c1.mono ?_
  rintro e w' ⟨rfl, rfl⟩
  go_wp2_with fail
  refine c2.mono ?_
  rintro e w' ⟨rfl, rfl⟩
  go_wp2_with fail
  go_ret2
  exact ⟨rfl, rfl⟩

theorem least_none (p : Nat) (free : Nat → Bool) (w : World) (h : Room w p free) (hl : ∀ s, s < 4096 → free s = false) :
    Calls Tryd.prog 47 #[.pointer (some ⟨p, 2, none⟩)] w fun e w' => e = .returned (.tuple #[.int .i64 0, .bool false]) ∧ w' = w := by
  obtain ⟨F, S, hb, r⟩ := h
  have hS : S = 0 := by
    rcases Nat.eq_zero_or_pos S with e | e
    · exact e
    · obtain ⟨a1, a2, a3, a4, a5⟩ := hb.least (by omega)
      rw [hl _ (by omega)] at a4; cases a4
  have cs := r.s
  have hb0 : ((S : Int) == 0) = true := by simp [hS]
  clear hb r hl hS
  go_enter Tryd.func47, Tryd.ntmps47
  go_wp2_with fail
  go_ret2
  exact ⟨rfl, rfl⟩
end Go.Proofs.YtlpjojegdnconaaDoor
