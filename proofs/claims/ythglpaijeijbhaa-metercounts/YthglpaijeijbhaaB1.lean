/- A meter in a law; awake; MeterKnown walked. -/
import Derived.Test.YthglpaijeijbhaaA2
import Derived.ChangeKeysEq
namespace Go.Proofs.Ythglpaijeijbhaa
open Go.RowKit Go.Lib
set_option linter.unusedVariables false

theorem Ke.after {w a b : World} {F : Nat → Prop} (h : Gr w a) (k : Ke F a b) (hF : ∀ j, F j → w.heap.size ≤ j) : Gr w b :=
  ⟨k.os.trans h.os, k.output.trans h.output, Nat.le_trans h.size k.size, fun j hj hn => (k.block j (Nat.lt_of_lt_of_le hj h.size) (fun q => by have := hF _ q; omega)).trans (h.block j hj hn)⟩

theorem ix0 (a b c d e : Int) (w : World) : (Instr.index 26 (.agg #[.int .i64 a, .int .i64 b, .int .i64 c, .int .i64 d, .int .i64 e]) (.int .i64 0)).run Try.prog w = .ok (.int .i64 a) w := by
  kernel_rfl
theorem info2 : (Try.prog.info? 2).isSome = true := by kernel_rfl
theorem plain2 : Try.prog.plainKey 2 = true := by kernel_rfl
theorem cells2 : Try.prog.cellsOf 2 = 1 := by kernel_rfl
theorem eq5 (a b c d e a' b' c' d' e' : Int) (w : World) : (Op.equalIn 10000 26 (.agg #[.int .i64 a, .int .i64 b, .int .i64 c, .int .i64 d, .int .i64 e]) (.agg #[.int .i64 a', .int .i64 b', .int .i64 c', .int .i64 d', .int .i64 e'])).run Try.prog w = .ok (a == a' && b == b' && c == c' && d == d' && e == e') w := by
  obtain ⟨i, hi⟩ := Option.isSome_iff_exists.1 info2
  rw [show (10000 : Nat) = 9999 + 1 from rfl, run_equalIn_array w 9999 _ _ Try.underlying26 hi, cells2, show List.range 5 = [0, 1, 2, 3, 4] from rfl]
  have hp : ∀ (x0 x1 x2 x3 x4 v : Value) (j : Nat) (w : World), #[x0, x1, x2, x3, x4][j]? = some v → (part 2 #[x0, x1, x2, x3, x4] (j * 1)).run Try.prog w = .ok v w := fun x0 x1 x2 x3 x4 v j w h => run_part_plain w plain2 (by rw [Nat.mul_one]; exact h)
  have he : ∀ (x y : Int) (w : World), (Op.equalIn 9999 2 (.int .i64 x) (.int .i64 y)).run Try.prog w = .ok (x == y) w := fun x y w => run_equalIn_int w 9998 2 .i64 .i64 x y Try.underlying2
  simp only [Op.eqItems, Sem.run_bind, hp _ _ _ _ _ _ 0 _ rfl, hp _ _ _ _ _ _ 1 _ rfl, hp _ _ _ _ _ _ 2 _ rfl, hp _ _ _ _ _ _ 3 _ rfl, hp _ _ _ _ _ _ 4 _ rfl, Result.andThen_ok, Sem.run_ite, Sem.run_pure]
  by_cases h0 : a = a' <;> by_cases h1 : b = b' <;> by_cases h2 : c = c' <;> by_cases h3 : d = d' <;> by_cases h4 : e = e' <;> simp [he, h0, h1, h2, h3, h4]

/-- A meter in a law that began at w0. -/
structure MW (w0 w : World) (p : Nat) (c : Nat → Int) : Prop where
  m : M w p c
  gr : Gr w0 w
  lo : w0.heap.size ≤ p
theorem MW.gro {w0 w w' : World} {p : Nat} {c : Nat → Int} (h : MW w0 w p c) (g : Gr w w') : MW w0 w' p c := ⟨h.m.gr g, h.gr.trans g, h.lo⟩
theorem mw_new {w0 w : World} (g : Gr w0 w) : Calls Try.prog 9 #[] w fun e w' => ∃ p, e = .returned (.pointer (some ⟨p, 0, none⟩)) ∧ p = w.heap.size ∧ Gr w w' ∧ MW w0 w' p (fun _ => 0) := by
  refine (new_any w).mono ?_
  rintro e w' ⟨rfl, rfl⟩
  have g1 := (Ke.refl (fun _ => False) w).alloc newO
  exact ⟨_, rfl, rfl, g1, M.new w, g.trans g1, g.size⟩
theorem mw_add {w0 w : World} {p : Nat} {c : Nat → Int} (h : MW w0 w p c) {k : Nat} (hk : k < 5) {n s : Int} (hs : IntKind.i64.wrap (c k + n) = s) {ki : Int} (hki : ki = k) : Calls Try.prog 10 #[.pointer (some ⟨p, 0, none⟩), .int .i64 ki, .int .i64 n] w fun e w' => e = .returned (.int .i64 s) ∧ Ke (fun j => j = p) w w' ∧ MW w0 w' p (add1 c k s) := by
  subst hki
  refine (add_in h.m hk hs).mono ?_
  rintro e w' ⟨rfl, k1, m1⟩
  exact ⟨rfl, k1, m1, h.gr.after k1 (fun j q => by have := h.lo; omega), h.lo⟩
theorem mw_get {w0 w : World} {p : Nat} {c : Nat → Int} (h : MW w0 w p c) {k : Nat} (hk : k < 5) {s : Int} (hs : c k = s) {ki : Int} (hki : ki = k) : Calls Try.prog 11 #[.pointer (some ⟨p, 0, none⟩), .int .i64 ki] w fun e w' => e = .returned (.int .i64 s) ∧ w' = w := by
  subst hki hs
  exact get_in h.m hk
theorem mw_all {w0 w : World} {p : Nat} {c : Nat → Int} (h : MW w0 w p c) : Calls Try.prog 12 #[.pointer (some ⟨p, 0, none⟩)] w fun e w' => e = .returned (allV c) ∧ Gr w w' ∧ MW w0 w' p c := by
  refine (all_any h.m).mono ?_
  rintro e w' ⟨rfl, g⟩
  exact ⟨rfl, g, h.gro g⟩

theorem mw_all5 {w0 w : World} {p : Nat} {c : Nat → Int} (h : MW w0 w p c) {x0 x1 x2 x3 x4 : Int} (e0 : c 0 = x0) (e1 : c 1 = x1) (e2 : c 2 = x2) (e3 : c 3 = x3) (e4 : c 4 = x4) : Calls Try.prog 12 #[.pointer (some ⟨p, 0, none⟩)] w fun e w' => e = .returned (.agg #[.int .i64 x0, .int .i64 x1, .int .i64 x2, .int .i64 x3, .int .i64 x4]) ∧ Gr w w' ∧ MW w0 w' p c := by
  subst e0 e1 e2 e3 e4
  exact mw_all h

set_option maxRecDepth 100000 in
set_option maxHeartbeats 1600000 in
/-- awake. -/
theorem awake_any (w : World) : Calls Try.prog 8 #[] w fun e w' => e = .returned (.bool true) ∧ Gr w w' := by
  have CN := Lib.hid (mw_new (Ke.refl (fun _ => False) w))
  go_enter Try.func8, Try.ntmps8
  go_wp2_with fail
  refine CN.out.mono ?_
  rintro e w1 ⟨p, rfl, -, -, h1⟩
  have C1 := Lib.hid (mw_add h1 (k := 0) (by omega) (n := 2) (s := 2) (by decide +kernel) (ki := 0) rfl)
  clear h1 CN
  go_wp2_with fail
  refine C1.out.mono ?_
  rintro e w2 ⟨rfl, -, h2⟩
  have C2 := Lib.hid (mw_add h2 (k := 0) (by omega) (n := 3) (s := 5) (by decide +kernel) (ki := 0) rfl)
  clear C1 h2
  go_wp2_with fail
  refine C2.out.mono ?_
  rintro e w3 ⟨rfl, -, h3⟩
  have C3 := Lib.hid (mw_get h3 (k := 0) (by omega) (s := 5) (by decide +kernel) (ki := 0) rfl)
  have C4 := Lib.hid (mw_all5 h3 (x0 := 5) (x1 := 0) (x2 := 0) (x3 := 0) (x4 := 0) rfl rfl rfl rfl rfl)
  clear C2 h3
  go_wp2_with fail
  refine C3.out.mono ?_
  rintro e w4 ⟨rfl, hw⟩
  obtain rfl := hw.symm
  go_wp2_with fail
  refine C4.out.mono ?_
  rintro e w5 ⟨rfl, -, h5⟩
  have H5 := Lib.hid h5
  have IX := ix0
  clear h5 C3 C4 hw
  go_wp2
  go_ret
  exact ⟨rfl, H5.out.gr⟩

set_option maxRecDepth 100000 in
set_option maxHeartbeats 1600000 in
/-- MeterKnown. -/
theorem known_walk (w : World) : Calls Try.prog 5 #[] w fun e w' => e = .returned (.bool true) ∧ Gr w w' := by
  have CA := Lib.hid (awake_any w)
  go_enter Try.func5, Try.ntmps5
  go_wp2_with fail
  refine CA.out.mono ?_
  rintro e w1 ⟨rfl, g1⟩
  have CN := Lib.hid (mw_new g1)
  clear g1 CA
  go_wp2_with fail
  refine CN.out.mono ?_
  rintro e w2 ⟨p, rfl, -, -, h2⟩
  have C1 := Lib.hid (mw_add h2 (k := 4) (by omega) (n := 9223372036854775807) (s := 9223372036854775807) (by decide +kernel) (ki := 4) rfl)
  clear h2 CN
  go_wp2_with fail
  refine C1.out.mono ?_
  rintro e w3 ⟨rfl, -, h3⟩
  have C2 := Lib.hid (mw_add h3 (k := 4) (by omega) (n := 1) (s := -9223372036854775808) (by decide +kernel) (ki := 4) rfl)
  clear C1 h3
  go_wp2_with fail
  refine C2.out.mono ?_
  rintro e w4 ⟨rfl, -, h4⟩
  have A1 := Lib.hid (add_out (p := p) (k := -1) (n := 5) (by omega) w4)
  have A2 := Lib.hid (add_out (p := p) (k := 5) (n := 5) (by omega) w4)
  have A3 := Lib.hid (get_out (p := p) (k := -1) (by omega) w4)
  have A4 := Lib.hid (get_out (p := p) (k := 5) (by omega) w4)
  have A5 := Lib.hid (mw_all5 h4 (x0 := 0) (x1 := 0) (x2 := 0) (x3 := 0) (x4 := -9223372036854775808) rfl rfl rfl rfl rfl)
  clear C2 h4
  go_wp2_with fail
  refine A1.out.mono ?_
  rintro e w5 ⟨rfl, hw⟩
  obtain rfl := hw.symm
  clear hw
  go_wp2_with fail
  refine A2.out.mono ?_
  rintro e w5 ⟨rfl, hw⟩
  obtain rfl := hw.symm
  clear hw
  go_wp2_with fail
  refine A3.out.mono ?_
  rintro e w5 ⟨rfl, hw⟩
  obtain rfl := hw.symm
  clear hw
  go_wp2_with fail
  refine A4.out.mono ?_
  rintro e w5 ⟨rfl, hw⟩
  obtain rfl := hw.symm
  clear hw
  go_wp2_with fail
  refine A5.out.mono ?_
  rintro e w6 ⟨rfl, -, h6⟩
  have H6 := Lib.hid h6
  have EQ := eq5
  clear h6 A1 A2 A3 A4 A5
  go_wp2
  go_ret
  exact ⟨rfl, H6.out.gr⟩
end Go.Proofs.Ythglpaijeijbhaa
