/- The document's own seats: Sit in all; what lies beside is kept. -/
import Derived.Test.YtnmdidglfegdcaaDoorG6
import Derived.Test.YtnmdidglfegdcaaDoorX1
namespace Go.Proofs.YtnmdidglfegdcaaDoor
open Go.RowKit Go.Lib Go.Maps
set_option linter.unusedVariables false
set_option maxRecDepth 100000
set_option maxHeartbeats 4000000

/-- A row that came in, by its cells. -/
theorem Ro.cel {w w' : World} (r : Ro w) (g : Gr w w') (h : 0 < r.l.length) : ∃ b off, r.a = some ⟨b, off, none⟩ ∧ ∀ j, j < r.l.length → w'.cell? ⟨b, off + j, none⟩ = some (.int .i64 (r.l.getD j 0)) := by
  obtain ⟨a, c, e, q⟩ := r.hin
  injection e with e1 e2 e3
  rcases q with q | ⟨b, off, rfl, q⟩
  · rw [q] at h; simp at h
  · exact ⟨b, off, e1, fun j hj => gcell g (q j hj)⟩
theorem Rf.ke {w w' : World} {base p n : Nat} {v : Value} {S : List Sa} {F : Nat → Prop} (h : Rf w base p n v S) (k : Ke F w w') (h1 : ¬ F p) (h2 : ∀ j, v.ownBlock = some j → ¬ F j) : Rf w' base p n v S := by
  have hp : p < w.heap.size := lt_of_cell h.c0
  have e : w'.heap[p]? = w.heap[p]? := k.block p hp h1
  exact ⟨h.bp, (World.cell?_of_block (a := ⟨p, 0, none⟩) e).trans h.c0, (World.cell?_of_block (a := ⟨p, 1, none⟩) e).trans h.c1, fun o => (World.frozen?_of_block (a := ⟨p, o, none⟩) e).trans (h.fz o), h.row.keep (fun g hg => k.block g (Row.lt h.row hg).2 (h2 g hg)), h.vp, h.ln⟩
theorem sit_rf {w : World} {base p k : Nat} {v vi : Value} {S : List Sa} {l : List Int} (h : Rf w base p k v S) (hS : Dis S) (ok : Ok k (fA S) (fN S)) (hk1 : 1 ≤ k) (hk : k ≤ 64) (hb : base ≤ w.heap.size) (hSl : S.length ≤ 15000) (hv : IdIn w vi l) (hoff : ∀ b off n c, vi = .slice (some ⟨b, off, none⟩) n c → 0 < n → ¬ (b = p ∨ v.ownBlock = some b)) (hl2 : l.length ≤ 9223372036854775807) :
    Calls Tryd.prog 13 #[.pointer (some ⟨p, 0, none⟩), vi] w fun e w' => RefQ w base p k v S l e w' := by
  by_cases hl : l.length ≤ k
  · exact sit_rf_ok h hS ok hk1 hk hb hSl hv hoff hl
  · exact sit_rf_full h hS hv (by omega) hl2
/-- Last, by what each has. -/
theorem last_fa {w : World} {base p n : Nat} {v : Value} {S : List Sa} (h : Rf w base p n v S) (x : Int) : Calls Tryd.prog 15 #[.pointer (some ⟨p, 0, none⟩), .int .i64 x] w fun e w' => e = .returned (.tuple #[.int .i64 ((fA S x).getD 0 : Nat), .bool (fA S x).isSome]) ∧ Gr w w' := by
  refine (last_rf h x).mono ?_
  rintro e w' ⟨rfl, g⟩
  refine ⟨?_, g⟩
  cases e : atI S x with
  | none => rw [fA_no e]; rfl
  | some k => rw [fA_at e]; rfl
/-- What is known on the way through the deeds: the program's seats at p, bm; the document's at q. -/
structure Py (w wr : World) (p bm q base k i : Nat) (v : Value) (S : List Sa) : Prop where
  sw : SW w wr p bm k i (fA S) (fN S)
  rf : Rf wr base q k v S
  dis : Dis S
  len : S.length ≤ 80 * i
  bs : base ≤ wr.heap.size
theorem Py.gr {w wr w' : World} {p bm q base k i : Nat} {v : Value} {S : List Sa} (h : Py w wr p bm q base k i v S) (g : Gr wr w') : Py w w' p bm q base k i v S := ⟨h.sw.gro g, h.rf.gr g, h.dis, h.len, Nat.le_trans h.bs g.size⟩
end Go.Proofs.YtnmdidglfegdcaaDoor
