/- The table of slots: the contract of New. -/
import Derived.Test.YtlpjojegdnconaaDoorR4
import Derived.Deep.LoopGhost
import Derived.Laws.MakeOwn
namespace Go.Proofs.YtlpjojegdnconaaDoor
open Go.RowKit Go.Lib Go.Maps
set_option linter.unusedVariables false

theorem info3 : ∃ i, Tryd.prog.info? 3 = some i ∧ i.size = 1 ∧ i.bytes = 8 ∧ i.zero = some (.int .i64 0) := by
  have h1 : (Tryd.prog.info? 3).map (·.size) = some 1 := by kernel_rfl
  have h2 : (Tryd.prog.info? 3).map (·.bytes) = some 8 := by kernel_rfl
  have h3 : (Tryd.prog.info? 3).map (·.zero) = some (some (.int .i64 0)) := by kernel_rfl
  cases h : Tryd.prog.info? 3 with
  | none => rw [h] at h1; cases h1
  | some i =>
    rw [h] at h1 h2 h3
    exact ⟨i, rfl, by simpa using h1, by simpa using h2, by simpa using h3⟩

theorem made_ints (c : Nat) : madeCells (Value.cells (.int .i64 0)) c = Array.replicate c (.int .i64 0) := by
  refine Array.ext (by simp [madeCells]) fun i h1 h2 => ?_
  simp [madeCells, Value.cells, Nat.mod_one]

set_option maxRecDepth 100000 in
theorem make3 (n c : Nat) (hn : n ≤ c) (hc : c ≤ 1000000) (w : World) : (Instr.makeSlice 42 (.int .i64 (n : Int)) (.int .i64 (c : Int))).run Tryd.prog w = .ok (.slice (some ⟨w.heap.size, 0, none⟩) n c) (w.alloc (.cells (Array.replicate c (.int .i64 0)) 3)) := by
  obtain ⟨i, hi, h1, h2, h3⟩ := info3
  have h := run_make w 42 3 i _ Tryd.underlying42 hi h3 .i64 .i64 n c (by omega) (by omega) (by rw [h2]; omega) (by omega)
  rw [h1, Int.toNat_natCast, Int.toNat_natCast, Nat.mul_one, made_ints] at h
  exact h

theorem zero68 : ∃ Z : Array Value, Z.size = 67 ∧ (∀ k, k < 65 → Z[2 + k]? = some (.int .u64 0)) ∧ ∀ w, (zeroValue 68).run Tryd.prog w = .ok (.agg Z) w := by
  refine ⟨#[.slice none 0 0, .map none] ++ Array.replicate 65 (.int .u64 0), by simp, fun k hk => ?_, fun w => by kernel_rfl⟩
  rw [Array.getElem?_append_right (by simp)]
  simp [hk]

/-- What the loop of New has done so far. -/
structure Laying (w0 : World) (p k : Nat) (wr : World) : Prop where
  turn : Turn p w0 wr
  room : Room wr p (fun s => decide (s < k))
  same : ∀ o, o < 2 → wr.cell? ⟨p, o, none⟩ = w0.cell? ⟨p, o, none⟩

/-- What New leaves. -/
def NewPost (w : World) (m : Nat) (e : Ending) (w' : World) : Prop := ∃ p g bm, e = .returned (.pointer (some ⟨p, 0, none⟩)) ∧ w.heap.size ≤ p ∧ w.heap.size ≤ g ∧ w.heap.size ≤ bm ∧ Below w.heap.size w w' ∧ Rep w' p g bm m (fun _ => none) (.map [])

theorem get_in {Z : Array Value} (hZ : Z.size = 67) (a b : Value) : ((Z.setIfInBounds 0 a).setIfInBounds 1 b)[0]? = some a ∧ ((Z.setIfInBounds 0 a).setIfInBounds 1 b)[1]? = some b ∧ ∀ k, 2 ≤ k → ((Z.setIfInBounds 0 a).setIfInBounds 1 b)[k]? = Z[k]? := by
  refine ⟨?_, ?_, fun k hk => ?_⟩
  · rw [Array.getElem?_setIfInBounds_ne (by omega), Array.getElem?_setIfInBounds_self_of_lt (by omega)]
  · rw [Array.getElem?_setIfInBounds_self_of_lt (by simp; omega)]
  · rw [Array.getElem?_setIfInBounds_ne (by omega), Array.getElem?_setIfInBounds_ne (by omega)]

/-- The three new blocks. -/
structure Fresh (w W0 : World) (m : Nat) : Prop where
  size : W0.heap.size = w.heap.size + 3
  below : Below w.heap.size w W0
  row : W0.heap[w.heap.size]? = some (.cells (Array.replicate m (.int .i64 0)) 3 (0, 0))
  mp : W0.ownsMap Tryd.prog 3 (plainElem Tryd.prog 3) (w.heap.size + 1) 0 (.map [] : DataW Unit)
  c0 : W0.cell? ⟨w.heap.size + 1 + 1, 0, none⟩ = some (.slice (some ⟨w.heap.size, 0, none⟩) m m)
  c1 : W0.cell? ⟨w.heap.size + 1 + 1, 1, none⟩ = some (.map (some (w.heap.size + 1)))
  cz : ∀ k, k < 65 → W0.cell? ⟨w.heap.size + 1 + 1, 2 + k, none⟩ = some (.int .u64 0)
  fr : ∀ o, W0.frozen? ⟨w.heap.size + 1 + 1, o, none⟩ = false

theorem fresh_new (w : World) (m : Nat) {Z : Array Value} (hZ : Z.size = 67) (hZc : ∀ k, k < 65 → Z[2 + k]? = some (.int .u64 0)) :
    Fresh w (((w.alloc (.cells (Array.replicate m (.int .i64 0)) 3)).alloc (.map #[] 0)).alloc (.cells ((Z.setIfInBounds 0 (.slice (some ⟨w.heap.size, 0, none⟩) m m)).setIfInBounds 1 (.map (some (w.heap.size + 1)))) 68)) m := by
  obtain ⟨g0, g1, g2⟩ := get_in hZ (.slice (some ⟨w.heap.size, 0, none⟩) m m) (.map (some (w.heap.size + 1)))
  generalize ((Z.setIfInBounds 0 (.slice (some ⟨w.heap.size, 0, none⟩) m m)).setIfInBounds 1 (.map (some (w.heap.size + 1)))) = Y at *
  have s1 : (w.alloc (.cells (Array.replicate m (.int .i64 0)) 3)).heap.size = w.heap.size + 1 := by simp
  have s2 : ((w.alloc (.cells (Array.replicate m (.int .i64 0)) 3)).alloc (.map #[] 0)).heap.size = w.heap.size + 1 + 1 := by simp
  have hb : (((w.alloc (.cells (Array.replicate m (.int .i64 0)) 3)).alloc (.map #[] 0)).alloc (.cells Y 68)).heap[w.heap.size + 1 + 1]? = some (.cells Y 68 (0, 0)) := by
    have := (MapKept.heap_alloc ((w.alloc (.cells (Array.replicate m (.int .i64 0)) 3)).alloc (.map #[] 0)) (.cells Y 68)).1
    rwa [s2] at this
  have hc : ∀ o, (((w.alloc (.cells (Array.replicate m (.int .i64 0)) 3)).alloc (.map #[] 0)).alloc (.cells Y 68)).cell? ⟨w.heap.size + 1 + 1, o, none⟩ = Y[o]? := fun o => by simp only [World.cell?, hb]; simp
  refine ⟨by simp, (((Below.refl _ _).alloc (Nat.le_refl _) _).alloc (by simp) _).alloc (by simp; omega) _, ?_, ?_, (hc 0).trans g0, (hc 1).trans g1, fun k hk => (hc (2 + k)).trans ((g2 (2 + k) (by omega)).trans (hZc k hk)), fun o => by simp only [World.frozen?, hb]; simp⟩
  · have h1 := (MapKept.heap_alloc w (.cells (Array.replicate m (.int .i64 0)) 3)).1
    have h2 := (World.grownBy_alloc (w.alloc (.cells (Array.replicate m (.int .i64 0)) 3)) (.map #[] 0) none).block w.heap.size (by simp) (by simp)
    have h3 := (World.grownBy_alloc ((w.alloc (.cells (Array.replicate m (.int .i64 0)) 3)).alloc (.map #[] 0)) (.cells Y 68) none).block w.heap.size (by simp; omega) (by simp)
    exact (h3.trans h2).trans h1
  · have h1 := World.ownsMap_made (H := Unit) (w.alloc (.cells (Array.replicate m (.int .i64 0)) 3)) Tryd.prog 3 (plainElem Tryd.prog 3)
    rw [s1] at h1
    exact h1.alloc _

theorem laying_start {w W0 : World} {m : Nat} (h : Fresh w W0 m) : Laying W0 (w.heap.size + 1 + 1) 0 W0 :=
  ⟨Turn.refl _ _, ⟨fun _ => 0, 0, by simpa using Bits.start, ⟨fun k hk => h.cz k (by omega), h.cz 64 (by omega), h.fr⟩⟩, fun _ _ => rfl⟩

theorem rep_new {w W0 wr : World} {m : Nat} (hm : m ≤ 4096) (h : Fresh w W0 m) (l : Laying W0 (w.heap.size + 1 + 1) m wr) : Rep wr (w.heap.size + 1 + 1) w.heap.size (w.heap.size + 1) m (fun _ => none) (.map []) := by
  have hs := h.size
  have hs' := l.turn.size
  have eg : wr.heap[w.heap.size]? = W0.heap[w.heap.size]? := l.turn.gr.block _ (by omega) (by simp; omega)
  exact {
    n4 := hm, pg := by omega, pm := by omega, gm := by omega, pl := by omega, gl := by omega, ml := by omega
    ids := (l.same 0 (by omega)).trans h.c0
    mp := (l.same 1 (by omega)).trans h.c1
    room := l.room.congr (fun s => by simp)
    out := fun _ _ => rfl
    wf := fun _ _ h => (by cases h)
    cell := fun s hs => ⟨0, by simp only [World.cell?, eg.trans h.row]; simp [hs], fun _ h => (by cases h)⟩
    gz := fun o => by simp only [World.frozen?, eg.trans h.row]; simp
    own := h.mp.kept l.turn.gr (by simp)
    map := MapIs.start
    size := (cnt_empty m).symm }

set_option maxRecDepth 100000 in
set_option maxHeartbeats 2000000 in
theorem new_any (x : Int) (m : Nat) (w : World) (hm : m ≤ 4096) (hlo : (if x < 0 then 0 else x) = (m : Int)) :
    Calls Tryd.prog 28 #[.int .i64 x] w fun e w' => NewPost w m e w' := by
  have hle : (m : Int) ≤ 4096 := by omega
  have hmm := @run_makeMap Tryd.prog
  have mk := make3 m m (Nat.le_refl _) (by omega) w
  obtain ⟨Z, hZ, hZc, z68⟩ := zero68
  have HZ := Lib.hid hZ
  have HC := Lib.hid hZc
  have e1 : ¬ Z = #[] := fun e => by rw [e] at hZ; simp at hZ
  have e2 : ¬ Z.size < 2 := by omega
  clear hZ hZc
  go_enter Tryd.func28, Tryd.ntmps28
  go_wp2_with fail
  have FR := Lib.hid (fresh_new w m HZ.out HC.out)
  generalize (((w.alloc (.cells (Array.replicate m (.int .i64 0)) 3)).alloc (.map #[] 0)).alloc (.cells ((Z.setIfInBounds 0 (.slice (some ⟨w.heap.size, 0, none⟩) m m)).setIfInBounds 1 (.map (some (w.heap.size + 1)))) 68)) = W0 at *
  clear HZ HC e1 e2 z68 mk hmm
  go_loopg [14] m (fun kx s14 wr => ∃ k : Nat, s14 = .int .i64 k ∧ k ≤ m ∧ m - k ≤ kx ∧ Aside (Laying W0 (w.heap.size + 1 + 1) k wr))
  case atStart => exact ⟨0, rfl, by omega, by omega, laying_start FR.out⟩
  case round =>
    obtain ⟨k, rfl, hk, hkx, LY⟩ := hrel
    by_cases hlt : k < m
    · have hltz : (k : Int) < (m : Int) := by omega
      have CA := Lib.hid (add_any (w.heap.size + 1 + 1) k _ wr (by omega) LY.out.room)
      go_wp2_with (go_at_call 46; refine CA.out.mono ?_; rintro e w1 ⟨rfl, T1, R1, k1⟩)
      go_roundg (m - (k + 1))
      case measure => omega
      case rel => exact ⟨k + 1, by go_num, by omega, Nat.le_refl _, (⟨LY.out.turn.trans T1, R1.congr (fun s => by
        by_cases e : s = k
        · subst e; simp [upd_same]
        · rw [upd_other _ _ e]; simp; omega), fun o ho => (k1 o (.inl ho)).trans (LY.out.same o ho)⟩ : Laying _ _ _ _)⟩
    · have hltz : ¬ (k : Int) < (m : Int) := by omega
      obtain rfl : m = k := by omega
      go_wp2
      go_ret
      have l := LY.out
      exact ⟨w.heap.size + 1 + 1, w.heap.size, w.heap.size + 1, rfl, by omega, Nat.le_refl _, by omega, FR.out.below.grown l.turn.gr (by have := FR.out.size; omega) (fun j hj => by cases hj; omega), rep_new hm FR.out l⟩

set_option maxRecDepth 100000 in
set_option maxHeartbeats 2000000 in
theorem new_big (x : Int) (m : Nat) (w : World) (hx : 4096 < x) (hm4 : m = 4096) :
    Calls Tryd.prog 28 #[.int .i64 x] w fun e w' => NewPost w m e w' := by
  have hle : ¬ x ≤ 4096 := by omega
  have hlt0 : ¬ x < 0 := by omega
  have hm : m ≤ 4096 := by omega
  have hmz : (4096 : Int) = (m : Int) := by omega
  clear hm4
  have hmm := @run_makeMap Tryd.prog
  have mk := make3 m m (Nat.le_refl _) (by omega) w
  obtain ⟨Z, hZ, hZc, z68⟩ := zero68
  have HZ := Lib.hid hZ
  have HC := Lib.hid hZc
  have e1 : ¬ Z = #[] := fun e => by rw [e] at hZ; simp at hZ
  have e2 : ¬ Z.size < 2 := by omega
  clear hZ hZc
  go_enter Tryd.func28, Tryd.ntmps28
  go_wp2_with fail
  have FR := Lib.hid (fresh_new w m HZ.out HC.out)
  generalize (((w.alloc (.cells (Array.replicate m (.int .i64 0)) 3)).alloc (.map #[] 0)).alloc (.cells ((Z.setIfInBounds 0 (.slice (some ⟨w.heap.size, 0, none⟩) m m)).setIfInBounds 1 (.map (some (w.heap.size + 1)))) 68)) = W0 at *
  clear HZ HC e1 e2 z68 mk hmm
  go_loopg [14] m (fun kx s14 wr => ∃ k : Nat, s14 = .int .i64 k ∧ k ≤ m ∧ m - k ≤ kx ∧ Aside (Laying W0 (w.heap.size + 1 + 1) k wr))
  case atStart => exact ⟨0, rfl, by omega, by omega, laying_start FR.out⟩
  case round =>
    obtain ⟨k, rfl, hk, hkx, LY⟩ := hrel
    by_cases hlt : k < m
    · have hltz : (k : Int) < (m : Int) := by omega
      have CA := Lib.hid (add_any (w.heap.size + 1 + 1) k _ wr (by omega) LY.out.room)
      go_wp2_with (go_at_call 46; refine CA.out.mono ?_; rintro e w1 ⟨rfl, T1, R1, k1⟩)
      go_roundg (m - (k + 1))
      case measure => omega
      case rel => exact ⟨k + 1, by go_num, by omega, Nat.le_refl _, (⟨LY.out.turn.trans T1, R1.congr (fun s => by
        by_cases e : s = k
        · subst e; simp [upd_same]
        · rw [upd_other _ _ e]; simp; omega), fun o ho => (k1 o (.inl ho)).trans (LY.out.same o ho)⟩ : Laying _ _ _ _)⟩
    · have hltz : ¬ (k : Int) < (m : Int) := by omega
      obtain rfl : m = k := by omega
      go_wp2
      go_ret
      have l := LY.out
      exact ⟨w.heap.size + 1 + 1, w.heap.size, w.heap.size + 1, rfl, by omega, Nat.le_refl _, by omega, FR.out.below.grown l.turn.gr (by have := FR.out.size; omega) (fun j hj => by cases hj; omega), rep_new hm FR.out l⟩
end Go.Proofs.YtlpjojegdnconaaDoor
