/- Contracts of New, Next, first, place. -/
import Derived.Test.YtgnfmmoanmhgpaaA1
import Derived.Deep.DeepCutAuto
import Derived.Deep.CutBlock
import Derived.Deep.RegionLaw
import Derived.OwnWalk
namespace Go.Proofs.Ytgnfmmoanmhgpaa
open Go.RowKit Go.Lib
set_option linter.unusedVariables false

theorem info33 : ∃ i, Try.prog.info? 33 = some i ∧ i.size = 10 ∧ i.bytes = 80 ∧ i.zero = some (enV en0) := by
  have h1 : (Try.prog.info? 33).map (·.size) = some 10 := by kernel_rfl
  have h2 : (Try.prog.info? 33).map (·.bytes) = some 80 := by kernel_rfl
  have h3 : (Try.prog.info? 33).map (·.zero) = some (some (enV en0)) := by kernel_rfl
  cases h : Try.prog.info? 33 with
  | none => rw [h] at h1; cases h1
  | some i =>
    rw [h] at h1 h2 h3
    exact ⟨i, rfl, by simpa using h1, by simpa using h2, by simpa using h3⟩
theorem make33 (k n : Nat) (hk : k ≤ n) (hn : n ≤ 1000000) (w : World) : ∃ X : Array Value, X.size = n * 10 ∧ (Instr.makeSlice 36 (.int .i64 (k : Int)) (.int .i64 (n : Int))).run Try.prog w = .ok (.slice (some ⟨w.heap.size, 0, none⟩) k n) (w.alloc (.cells X 33)) := by
  obtain ⟨i, hi, h1, h2, h3⟩ := info33
  refine ⟨madeCells (Value.cells (enV en0)) (n * 10), size_madeCells _ _, ?_⟩
  have h := run_make w 36 33 i _ Try.underlying36 hi h3 .i64 .i64 k n (by omega) (by omega) (by rw [h2]; omega) (by omega)
  rw [h1] at h
  simpa using h

/-- A new ring. -/
theorem rg_new (w : World) (X : Array Value) (k : Nat) (hX : X.size = k * 10) (k6 : k ≤ 4096) (E : Nat → En) :
    Rg ((w.alloc (.cells X 33)).alloc (.cells #[.slice (some ⟨w.heap.size, 0, none⟩) k k, .int .i64 0] 47)) (w.heap.size + 1) w.heap.size k 0 E := by
  have hs : (w.alloc (.cells X 33)).heap.size = w.heap.size + 1 := by simp
  have hb := heap_alloc_new (w.alloc (.cells X 33)) (.cells #[.slice (some ⟨w.heap.size, 0, none⟩) k k, .int .i64 0] 47)
  rw [hs] at hb
  have hr := World.rowIs_alloc w X 33 (fun j => X.getD j (.bool false)) (fun i hi => by simp [hi])
  rw [hX] at hr
  refine ⟨by unfold World.cell?; rw [hb]; rfl, by unfold World.cell?; rw [hb]; rfl, fun o => by unfold World.frozen?; rw [hb]; simp, by omega, k6, _, hr.alloc _, fun s h1 => by omega⟩

/-- What New leaves. -/
def NewQ (w : World) (k : Nat) (E : Nat → En) (e : Ending) (w' : World) : Prop := ∃ p g, e = .returned (.pointer (some ⟨p, 0, none⟩)) ∧ Gr w w' ∧ w.heap.size ≤ p ∧ w.heap.size ≤ g ∧ Rg w' p g k 0 E
set_option maxRecDepth 100000 in
/-- New. -/
theorem new_any (n : Int) (k : Nat) (hk : (k : Int) = min (max n 0) 4096) (E : Nat → En) (w : World) : Calls Try.prog 7 #[.int .i64 n] w (NewQ w k E) := by
  have k6 : k ≤ 4096 := by omega
  obtain ⟨X, hX, MK⟩ := make33 k k (Nat.le_refl _) (by omega) w
  have FIN : Hid (NewQ w k E (.returned (.pointer (some ⟨w.heap.size + 1, 0, none⟩))) ((w.alloc (.cells X 33)).alloc (.cells #[.slice (some ⟨w.heap.size, 0, none⟩) k k, .int .i64 0] 47))) := Lib.hid ⟨_, _, rfl, ((Ke.refl (fun _ => False) w).alloc (.cells X 33)).alloc (.cells #[.slice (some ⟨w.heap.size, 0, none⟩) k k, .int .i64 0] 47), by omega, by omega, rg_new w X k hX k6 E⟩
  obtain ⟨m, hm⟩ : ∃ m, (if n < 0 then 0 else n) = m := ⟨_, rfl⟩
  by_cases h : m ≤ 4096
  · obtain rfl : m = k := by split at hm <;> omega
    clear hk hX k6
    go_enter Try.func7, Try.ntmps7
    go_wp2
    go_ret
    exact FIN.out
  · obtain rfl : k = 4096 := by split at hm <;> omega
    have MK2 : (Instr.makeSlice 36 (.int .i64 4096) (.int .i64 4096)).run Try.prog w = .ok (.slice (some ⟨w.heap.size, 0, none⟩) 4096 4096) (w.alloc (.cells X 33)) := MK
    clear hk MK hX k6
    go_enter Try.func7, Try.ntmps7
    go_wp2
    go_ret
    exact FIN.out

section
variable {w : World} {p g k m : Nat} {E : Nat → En}
/-- Next. -/
theorem next_any (h : Rg w p g k m E) : Calls Try.prog 9 #[.pointer (some ⟨p, 0, none⟩)] w fun e w' => e = .returned (.int .i64 m) ∧ w' = w := by
  have CL := Lib.hid (iload_any h.c1)
  have lp := h.pl
  clear h
  go_enter Try.func9, Try.ntmps9
  go_wp2_with fail
  refine CL.out.mono ?_
  rintro e w1 ⟨rfl, rfl⟩
  go_wp2
  go_ret
  exact ⟨rfl, rfl⟩

set_option maxRecDepth 100000 in
/-- first. -/
theorem first_any (h : Rg w p g k m E) (hm : m ≤ 1000000) : Calls Try.prog 15 #[.pointer (some ⟨p, 0, none⟩)] w fun e w' => e = .returned (.int .i64 ((m - k : Nat) : Int)) ∧ w' = w.drew := by
  have CL := Lib.hid (next_any (h.gr ((Ke.refl _ w).drew)))
  have lp := h.pl
  have c0 := h.c0
  have c0d : w.drew.cell? ⟨p, 0, none⟩ = some (.slice (some ⟨g, 0, none⟩) k k) := h.c0
  have k6 := h.k6
  obtain ⟨d, hd⟩ : ∃ d, (m : Int) - (k : Int) = d := ⟨_, rfl⟩
  have wd : IntKind.i64.wrap d = d := by rw [IntKind.wrap_i64]; omega
  have wd2 : wrap64 d = d := by unfold wrap64; omega
  obtain ⟨f, hf⟩ : ∃ f, m - k = f := ⟨_, rfl⟩
  have md : (if d < 0 then 0 else d) = (f : Int) := by split <;> omega
  clear h k6 hm
  rw [hf]
  clear hf
  go_enter Try.func15, Try.ntmps15
  go_upto_region 1 with fail
  go_region_held3 (fun w' => w'.cell? ⟨p, 0, none⟩ = some (.slice (some ⟨g, 0, none⟩) k k))
    (with_reducible first | exact c0 | exact c0d)
    (first | (go_at_call 9; refine CL.out.mono ?_; rintro e w4 ⟨rfl, hw⟩; obtain rfl := hw.symm; clear hw))
  go_wp2
  go_ret
  exact ⟨rfl, rfl⟩

set_option maxRecDepth 100000 in
/-- place. -/
theorem place_any (h : Rg w p g k m E) (hk : 0 < k) (s : Nat) (hs : s ≤ 1000000) : Calls Try.prog 13 #[.pointer (some ⟨p, 0, none⟩), .int .i64 s] w fun e w' => e = .returned (.pointer (some ⟨g, s % k * 10, none⟩)) ∧ w' = w.drew := by
  have lp := h.pl
  have lg := h.gl
  have c0 := h.c0
  have k6 := h.k6
  have hr := Nat.mod_lt s hk
  obtain ⟨r, er⟩ : ∃ r, s % k = r := ⟨_, rfl⟩
  have e1 : (s : Int) % (k : Int) = (r : Int) := by rw [← er]; exact (Int.natCast_emod s k).symm
  have e2 : (s : Int).tmod (k : Int) = (r : Int) := by rw [Int.tmod_eq_emod_of_nonneg (by omega)]; exact e1
  have wk : wrap64 (k : Int) = k := by unfold wrap64; omega
  have b0 : (0 : Int) ≤ (r : Int) ∧ (r : Int) < (k : Int) := by omega
  rw [er]
  clear h hs er
  go_enter Try.func13, Try.ntmps13
  go_upto_region 1 with fail
  go_region
  go_wp2
  go_ret
  exact ⟨rfl, rfl⟩
end
end Go.Proofs.Ytgnfmmoanmhgpaa
