/- Jobs: what a call needs and leaves, by the list of tasks; contract of New. -/
import Derived.Test.YtlpjojegdnconaaDoorQ2
import Derived.Deep.MidRow
import Derived.Laws.Tables
namespace Go.Proofs.YtlpjojegdnconaaDoor
open Go.RowKit Go.Lib Go.Maps
open Ca (Ke Gr Sv Row Cl Ky Bs blk_other)
set_option linter.unusedVariables false
set_option maxRecDepth 100000
set_option maxHeartbeats 2000000

/-- Jobs of n slots at p hold the tasks S; at most c jobs began; its blocks are F. -/
structure Jb (w : World) (base p n c : Nat) (F : Nat → Prop) (S : List Tk) : Prop where
  ex : ∃ g bm v m A T D Fc L, Jx w base p n c g bm v m A T D Fc L ∧ At c A T ∧ Sl S A T ∧ Lk A T L ∧ F = FJ g bm v Fc
section
variable {w w' : World} {base p n c : Nat} {F G : Nat → Prop} {S : List Tk}
theorem Jb.ke (h : Jb w base p n c F S) (K : Ke G w w') (hG : ∀ j, F j → ¬ G j) : Jb w' base p n c F S := by
  obtain ⟨g, bm, v, m, A, T, D, Fc, L, hx, a, sl, lk, rfl⟩ := h.ex
  exact ⟨g, bm, v, m, A, T, D, Fc, L, hx.ke K hG, a, sl, lk, rfl⟩
theorem Jb.gr (h : Jb w base p n c F S) (K : Gr w w') : Jb w' base p n c F S := h.ke K (fun _ _ q => q)
theorem Jb.lt (h : Jb w base p n c F S) {k : Nat} (hk : F k) : base ≤ k ∧ k < w.heap.size := by
  obtain ⟨g, bm, v, m, A, T, D, Fc, L, hx, a, sl, lk, rfl⟩ := h.ex
  exact hx.lt hk
theorem Jb.self (h : Jb w base p n c F S) : F p := by
  obtain ⟨g, bm, v, m, A, T, D, Fc, L, hx, a, sl, lk, rfl⟩ := h.ex
  exact .inr (.inr (.inr hx.self))
theorem Jb.srt (h : Jb w base p n c F S) : Srt S := by
  obtain ⟨g, bm, v, m, A, T, D, Fc, L, hx, a, sl, lk, rfl⟩ := h.ex
  exact sl.srt
theorem Jb.ok (h : Jb w base p n c F S) {x : Tk} (hx : x ∈ S) : OkT c x := by
  obtain ⟨g, bm, v, m, A, T, D, Fc, L, hx', a, sl, lk, rfl⟩ := h.ex
  obtain ⟨s, h1, rfl⟩ := (sl.mem x).1 hx
  exact a.ok s _ h1
end

/-- What lies at the table's cells. -/
theorem rep_cells {w : World} {p g bm n : Nat} {A : Nat → Option Int} {D : DataW Unit} (h : Rep w p g bm n A D) : ∃ f : Nat → Value, ∀ j, j < 67 → w.cell? ⟨p, j, none⟩ = some (f j) := by
  obtain ⟨F, S, hb, r⟩ := h.room
  refine ⟨fun j => if j = 0 then .slice (some ⟨g, 0, none⟩) n n else if j = 1 then .map (some bm) else if j < 66 then .int .u64 (F (j - 2)) else .int .u64 S, fun j hj => ?_⟩
  by_cases e0 : j = 0
  · subst e0; exact h.ids
  · by_cases e1 : j = 1
    · subst e1; exact h.mp
    · dsimp only
      rw [if_neg e0, if_neg e1]
      by_cases e2 : j < 66
      · rw [if_pos e2]
        have := r.c (j - 2) (by omega)
        rwa [show 2 + (j - 2) = j by omega] at this
      · obtain rfl : j = 66 := by omega
        rw [if_neg e2]; exact r.s

def sixC : List Value := [.slice none 0 0, .map none, .slice none 0 0, .int .i64 0, .slice none 0 0, .pointer none]
theorem fold80 (f : Nat → Value) : List.foldl (fun (cs : Array Value) (x : Value × Nat) => cs.setIfInBounds x.snd x.fst) Tryd.zeroCells80 ((List.range 67).map f).zipIdx = ((List.range 67).map f ++ sixC).toArray := by kernel_rfl
theorem size68 : (Tryd.prog.info? 68).map (·.size) = some 67 := by kernel_rfl

/-- The block that New lays. -/
theorem jx_new {w W : World} {base p0 g bm m : Nat} {f : Nat → Value} (hm : m ≤ 4096) (hb : base ≤ w.heap.size) (hp : w.heap.size ≤ p0) (hg : w.heap.size ≤ g) (hbm : w.heap.size ≤ bm) (BL : Below w.heap.size w W) (R : Rep W p0 g bm m (fun _ => none) (.map [])) (hf : ∀ j, j < 67 → W.cell? ⟨p0, j, none⟩ = some (f j)) {C : Array Value} (hC : C = ((List.range 67).map f ++ sixC).toArray) :
    Jx (W.alloc (.cells C 80)) base W.heap.size m 0 g bm (.slice none 0 0) 0 (fun _ => none) (fun _ => zeroT) (.map []) (fun k => k = W.heap.size) [] ∧ Gr w (W.alloc (.cells C 80)) := by
  have hs := BL.size
  have hgl := R.gl
  have hml := R.ml
  have blk : (W.alloc (.cells C 80)).heap[W.heap.size]? = some (.cells C 80 (0, 0)) := heap_alloc_new W _
  have cell : ∀ o, (W.alloc (.cells C 80)).cell? ⟨W.heap.size, o, none⟩ = C[o]? := fun o => by simp only [World.cell?, blk]; simp
  have fz : ∀ o, (W.alloc (.cells C 80)).frozen? ⟨W.heap.size, o, none⟩ = false := fun o => by simp only [World.frozen?, blk]; simp
  have lowc : ∀ j, j < 67 → (W.alloc (.cells C 80)).cell? ⟨W.heap.size, j, none⟩ = W.cell? ⟨p0, j, none⟩ := fun j hj => by
    rw [cell, hf j hj, hC]
    simp [List.getElem?_append_left, hj]
  have six : ∀ j, (W.alloc (.cells C 80)).cell? ⟨W.heap.size, 67 + j, none⟩ = sixC[j]? := fun j => by
    rw [cell, hC]
    simp [List.getElem?_append_right]
  have eg := Below.heap_alloc W (.cells C 80) g R.gl
  have em := Below.heap_alloc W (.cells C 80) bm R.ml
  obtain ⟨F, S, hbt, r⟩ := R.room
  have rep : Rep (W.alloc (.cells C 80)) W.heap.size g bm m (fun _ => none) (.map []) := {
    n4 := hm, pg := by omega, pm := by omega, gm := R.gm
    pl := by simp, gl := by simp; omega, ml := by simp; omega
    ids := (lowc 0 (by omega)).trans R.ids, mp := (lowc 1 (by omega)).trans R.mp
    room := ⟨F, S, hbt, ⟨fun k hk => (lowc (2 + k) (by omega)).trans (r.c k hk), (lowc 66 (by omega)).trans r.s, fz⟩⟩
    out := fun _ _ => rfl, wf := fun _ _ h => (by cases h)
    cell := fun s hs => by
      obtain ⟨v, h1, h2⟩ := R.cell s hs
      exact ⟨v, (World.cell?_of_block eg).trans h1, h2⟩
    gz := fun o => (World.frozen?_of_block eg).trans (R.gz o)
    own := by obtain ⟨es, cl, h1, h2⟩ := R.own; exact ⟨es, cl, em.trans h1, h2⟩
    map := R.map, size := R.size }
  have gr : Gr w (W.alloc (.cells C 80)) := ⟨BL.os, BL.tape, BL.output, by simp; omega, fun k hk _ => (Below.heap_alloc W _ k (by omega)).trans (BL.block k hk)⟩
  refine ⟨?_, gr⟩
  exact {
    bg := by omega, bb := by omega, rep := rep
    c67 := six 0
    row := World.ownsRow_nil _ _ _ _
    cl := Ca.cl_start _ base _ (by omega) (by simp) (six 1) (six 2) (six 3) (six 4) (six 5) fz
    mn := by omega
    tk := fun s h => absurd rfl h
    vp := by simp [Value.ownBlock], vg := by simp [Value.ownBlock], vm := by simp [Value.ownBlock]
    fv := fun k hk => by simp [Value.ownBlock] at hk
    fg := fun e => by have : g = W.heap.size := e; omega
    fm := fun e => by have : bm = W.heap.size := e; omega }

/-- What New leaves. -/
def NewJ (w : World) (base m : Nat) (e : Ending) (w' : World) : Prop := ∃ p F, e = .returned (.pointer (some ⟨p, 0, none⟩)) ∧ Jb w' base p m 0 F [] ∧ Gr w w' ∧ ∀ k, F k → w.heap.size ≤ k
theorem new_jb (x : Int) (m : Nat) (w : World) (base : Nat) (hb : base ≤ w.heap.size) (hm : m ≤ 4096) (hlo : (if x < 0 then 0 else x) = (m : Int)) :
    Calls Tryd.prog 9 #[.int .i64 x] w fun e w' => NewJ w base m e w' := by
  have C0 := Lib.hid (new_any x m w hm hlo)
  clear hlo
  go_enter Tryd.func9, Tryd.ntmps9
  go_wp2_with fail
  refine C0.out.mono ?_
  rintro e W ⟨p0, g, bm, rfl, hp, hg, hbm, BL, R⟩
  obtain ⟨f, hf⟩ := rep_cells R
  obtain ⟨cs, hcs⟩ : ∃ cs, cs = (List.range 67).map f := ⟨_, rfl⟩
  have hr : W.rangeAt p0 0 cs := fun j v hv => by
    rw [hcs] at hv
    rw [Nat.zero_add]
    have hj : j < 67 := by
      rcases Nat.lt_or_ge j 67 with q | q
      · exact q
      · rw [List.getElem?_eq_none (by simp; omega)] at hv; cases hv
    rw [hf j hj]
    simpa [hj] using hv
  have hsz : (Tryd.prog.info? 68).map (·.size) = some cs.length := by rw [size68, hcs]; simp
  obtain ⟨C, hC⟩ : ∃ C, C = ((List.range 67).map f ++ sixC).toArray := ⟨_, rfl⟩
  have hlen : cs.length = 67 := by rw [hcs]; simp
  have hfold : List.foldl (fun (cs : Array Value) (x : Value × Nat) => cs.setIfInBounds x.snd x.fst) Tryd.zeroCells80 cs.zipIdx = C := by rw [hcs, hC]; exact fold80 f
  have J := Lib.hid (jx_new hm hb hp hg hbm BL R hf hC)
  have HR := Lib.hid hr
  have R0 : w.heap.size ≤ W.heap.size := BL.size
  clear hf hr hcs hC R C0 BL hm
  go_wp2_with (refine wpList_load_mid rfl 68 _ rfl p0 0 rfl cs _ HR.out Tryd.underlying68 rfl hsz ?_)
  go_ret
  refine ⟨W.heap.size, _, rfl, ⟨g, bm, _, 0, _, _, _, _, [], J.out.1, ⟨fun s i q => (by cases q), fun s i q => (by cases q), fun s t i q => (by cases q)⟩, ⟨.nil, fun x => by simp⟩, ⟨fun k => by simp, .nil⟩, rfl⟩, J.out.2, fun k hk => ?_⟩
  rcases hk with q | q | q | q
  · omega
  · omega
  · simp [Value.ownBlock] at q
  · have h1 := W.heap.size
    have : k = W.heap.size := q
    have := R0
    omega
end Go.Proofs.YtlpjojegdnconaaDoor
