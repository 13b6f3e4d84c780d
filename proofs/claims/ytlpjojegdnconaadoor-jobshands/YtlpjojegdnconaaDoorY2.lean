/- JobsHands: the box that Task's answer is put into; a row of numbers overwritten. -/
import Derived.Test.YtlpjojegdnconaaDoorY1
namespace Go.Proofs.YtlpjojegdnconaaDoor
open Go.RowKit Go.Lib Go.Maps
open Ca (Ke Gr Sv Row Cl Ky Bs blk_other)
set_option linter.unusedVariables false
set_option maxRecDepth 100000
set_option maxHeartbeats 4000000

/-- A box of eleven cells that may be written. -/
structure B11 (W : World) (B : Nat) : Prop where
  c : ∀ o, o < 11 → ∃ v, W.cell? ⟨B, o, none⟩ = some v
  z : ∀ o, W.frozen? ⟨B, o, none⟩ = false
theorem B11.lt {W : World} {B : Nat} (h : B11 W B) : B < W.heap.size := by
  obtain ⟨v, hv⟩ := h.c 0 (by omega)
  have := Ca.lt_of_cell hv
  simpa using this
theorem B11.gr {W W' : World} {B : Nat} (h : B11 W B) (g : Gr W W') : B11 W' B := by
  refine ⟨fun o ho => ?_, fun o => (g.frozen (p := ⟨B, o, none⟩) h.lt (fun q => q)).trans (h.z o)⟩
  obtain ⟨v, hv⟩ := h.c o ho
  exact ⟨v, Ca.gcell g hv⟩
theorem B11.set {W : World} {B : Nat} (h : B11 W B) (b o : Nat) (u : Value) : B11 (W.setCell ⟨b, o, none⟩ u) B := by
  refine ⟨fun o' ho => ?_, fun o' => by simpa using h.z o'⟩
  obtain ⟨v, hv⟩ := h.c o' ho
  by_cases e : (⟨B, o', none⟩ : Addr) = ⟨b, o, none⟩
  · rw [e] at hv ⊢
    exact ⟨u, World.cell?_setCell_same W _ _ hv⟩
  · exact ⟨v, (World.cell?_setCell_other W _ _ _ (fun q => e q.symm)).trans hv⟩
theorem B11.drew {W : World} {B : Nat} (h : B11 W B) : B11 W.drew B := ⟨h.c, h.z⟩
theorem b11_new (W : World) (v0 v1 v2 v3 v4 v5 v6 v7 v8 v9 v10 : Value) (t : TypeId) : B11 (W.alloc (.cells #[v0, v1, v2, v3, v4, v5, v6, v7, v8, v9, v10] t)) W.heap.size := by
  refine ⟨fun o ho => ?_, fun o => by simp⟩
  rw [cell_of_row _ _ _ _ _ _ (heap_alloc_new W _)]
  rcases (show o = 0 ∨ o = 1 ∨ o = 2 ∨ o = 3 ∨ o = 4 ∨ o = 5 ∨ o = 6 ∨ o = 7 ∨ o = 8 ∨ o = 9 ∨ o = 10 by omega) with rfl | rfl | rfl | rfl | rfl | rfl | rfl | rfl | rfl | rfl | rfl <;> exact ⟨_, rfl⟩
theorem cell_old {W : World} {b o : Nat} {v : Value} (h : W.cell? ⟨b, o, none⟩ = some v) (c : Array Value) (t : TypeId) : (W.alloc (.cells c t)).cell? ⟨b, o, none⟩ = some v := Ca.gcell ((Ke.refl (fun _ => False) W).alloc _) h
theorem cell_drew {W : World} {a : Addr} {v : Value} (h : W.cell? a = some v) : W.drew.cell? a = some v := h
theorem cell_drewN {W : World} {a : Addr} {v : Value} (h : W.cell? a = some v) (n : Nat) : (W.drewN n).cell? a = some v := h
theorem cell_set {W : World} {b o c i : Nat} {v : Value} (h : W.cell? ⟨b, o, none⟩ = some v) (hb : b ≠ c) (u : Value) : (W.setCell ⟨c, i, none⟩ u).cell? ⟨b, o, none⟩ = some v := (World.cell?_setCell_other W _ _ _ (fun q => hb (by cases q; rfl))).trans h
theorem b11_carry {W W' : World} {G : Prop} (B : Nat) (g : Gr W W') (h : B11 W B) (f : B11 W' B → G) : G := f (h.gr g)
/-- A new box, and nothing else turned. -/
def TB (w : World) (s : Value) (W : World) : Prop := ∃ B, s = .pointer (some ⟨B, 0, none⟩) ∧ w.heap.size ≤ B ∧ B11 W B ∧ Gr w W
theorem B11.ke3 {W : World} {B : Nat} (h : B11 W B) (a b c : Nat) (u v x : Value) : Ke (fun j => j = B) W (((W.setCell ⟨B, a, none⟩ u).setCell ⟨B, b, none⟩ v).setCell ⟨B, c, none⟩ x) :=
  (((Ke.refl (fun j => j = B) W).set (p := ⟨B, a, none⟩) (.inl rfl) u).set (p := ⟨B, b, none⟩) (.inl rfl) v).set (p := ⟨B, c, none⟩) (.inl rfl) x
/-- A row of numbers on its way to be overwritten. -/
def OwR (Wb W0 : World) (v : Value) (n : Nat) (W : World) : Prop := ∃ f, Row W Wb.heap.size 3 1 v n f ∧ Ke (fun j => v.ownBlock = some j) W0 W
/-- Both tables, between two deeds. -/
def Ow (w : World) (pa pb i : Nat) (S : List Tk) (wr : World) : Prop := ∃ ca cb Fa Fb, JW w wr pa 12 ca Fa S ∧ JW w wr pb 12 cb Fb S ∧ (∀ j, Fa j → ¬ Fb j) ∧ ca ≤ 12 * i ∧ cb ≤ 12 * i
/-- The deed's box and the row of the two tables. -/
structure DX (d : De) (pa pb bx bd : Nat) (w : World) : Prop where
  d0 : w.cell? ⟨bd, 0, none⟩ = some (.int .i64 d.o)
  d1 : w.cell? ⟨bd, 1, none⟩ = some (.int .i64 d.i)
  d2 : w.cell? ⟨bd, 2, none⟩ = some (.int .i64 d.e)
  d3 : w.cell? ⟨bd, 3, none⟩ = some (.int .i64 d.p)
  d4 : w.cell? ⟨bd, 4, none⟩ = some (.bool d.s)
  x0 : w.cell? ⟨bx, 0, none⟩ = some (.pointer (some ⟨pa, 0, none⟩))
  x1 : w.cell? ⟨bx, 1, none⟩ = some (.pointer (some ⟨pb, 0, none⟩))
theorem DX.ke {d : De} {pa pb bx bd : Nat} {w w' : World} {F : Nat → Prop} (h : DX d pa pb bx bd w) (k : Ke F w w') (nx : ¬ F bx) (nd : ¬ F bd) : DX d pa pb bx bd w' := by
  have hd := Ca.lt_of_cell h.d0
  have hx := Ca.lt_of_cell h.x0
  have cd : ∀ {o : Nat} {v : Value}, w.cell? ⟨bd, o, none⟩ = some v → w'.cell? ⟨bd, o, none⟩ = some v := fun {o v} z => (k.cell (p := ⟨bd, o, none⟩) hd nd).trans z
  have cx : ∀ {o : Nat} {v : Value}, w.cell? ⟨bx, o, none⟩ = some v → w'.cell? ⟨bx, o, none⟩ = some v := fun {o v} z => (k.cell (p := ⟨bx, o, none⟩) hx nx).trans z
  exact ⟨cd h.d0, cd h.d1, cd h.d2, cd h.d3, cd h.d4, cx h.x0, cx h.x1⟩
theorem DX.xk {d : De} {pa pb bx bd : Nat} {w : World} (h : DX d pa pb bx bd w) {k p : Nat} (hk : k < 2) (hp : p = if k = 0 then pa else pb) : w.cell? ⟨bx, k, none⟩ = some (.pointer (some ⟨p, 0, none⟩)) := by
  rcases (show k = 0 ∨ k = 1 by omega) with rfl | rfl
  · rw [hp]; exact h.x0
  · rw [hp]; exact h.x1
/-- Behind the switch. -/
def Sw (w : World) (p c : Nat) (F : Nat → Prop) (S : List Tk) (w2 wx : World) : Prop := ∃ c' F', JW w wx p 12 c' F' S ∧ c' ≤ c + 12 ∧ Sv F F' w2 wx
theorem sw_lj {w w2 wx : World} {p c : Nat} {F : Nat → Prop} {S : List Tk} (h : LJ w w2 p 12 c F S wx) : Sw w p c F S w2 wx := by
  obtain ⟨F', h1, h2⟩ := h
  exact ⟨c, F', h1, by omega, h2⟩
theorem sw_lj' {w w1 w2 wx : World} {p c : Nat} {F : Nat → Prop} {S : List Tk} (g : Gr w2 w1) (h : LJ w w1 p 12 c F S wx) : Sw w p c F S w2 wx := by
  obtain ⟨F', h1, h2⟩ := h
  have h3 := (Ca.Sv.of_gr (F := F) g).trans h2
  exact ⟨c, F', h1, by omega, h3⟩

/-- A table of the law holds ids that are numbers, in order. -/
theorem jw_wf {w0 w : World} {p n c : Nat} {F : Nat → Prop} {S : List Tk} (h : JW w0 w p n c F S) : ∀ x, x ∈ S → (Lit.int .i64 x.id).wf = true := fun x hx => by
  obtain ⟨g, bm, v, m, A, T, D, Fc, L, hx', a, sl, lk, rfl⟩ := h.jb.ex
  obtain ⟨s, hs, rfl⟩ := (sl.mem x).1 hx
  exact (a.ok s _ hs).wf
theorem jw_srt {w0 w : World} {p n c : Nat} {F : Nat → Prop} {S : List Tk} (h : JW w0 w p n c F S) : Srt S := by
  obtain ⟨g, bm, v, m, A, T, D, Fc, L, hx', a, sl, lk, rfl⟩ := h.jb.ex
  exact sl.srt
/-- One table did the deed, and what it handed out was overwritten. -/
theorem hands_end {w : World} {S : List Tk} {d : De} {t : Int} {i pa pb bx bd k p c : Nat} {F : Nat → Prop} {wr wq w2 w3 w4 w5 : World} {c' : Nat} {F' : Nat → Prop} {B : Nat} {u : Value}
    (FO : Fo w S d t i pa pb bx bd k p c F wr) (h : JW w wq p 12 c' F' (haS S d t)) (hc : c' ≤ c + 12) (sv : Sv F F' wr wq) (gB : Gr wq w2) (hB : wq.heap.size ≤ B) (K3 : Ke (fun j => j = B) w2 w3) (g4 : Gr w3 w4) (K5 : Ke (fun j => u.ownBlock = some j) w4 w5) (hu : ∀ j, u.ownBlock = some j → w3.heap.size ≤ j)
    (dx : DX d pa pb bx bd wr) : Hb w S d t i pa pb bx bd (k + 1) w5 ∧ DX d pa pb bx bd w5 := by
  have s1 := sv.ke.size
  have s2 := gB.size
  have s3 := K3.size
  have hx := Ca.lt_of_cell dx.x0
  have hd := Ca.lt_of_cell dx.d0
  simp only at hx hd
  have lF : ∀ j, F' j → j < wq.heap.size := fun j hj => (h.jb.lt hj).2
  have h2 := h.gro gB
  have h3 := h2.ke K3 (fun j hj q => by have := lF j hj; omega) (fun j q => by have := h.gr.size; omega)
  have h5 := (h3.gro g4).ke K5 (fun j hj q => by have := lF j hj; have := hu j q; omega) (fun j q => by have := h.gr.size; have := hu j q; omega)
  have k1 : Ke (fun j => F j ∨ wr.heap.size ≤ j) wr wq := sv.ke.mono (fun j _ q => .inl q)
  have k2 : Ke (fun j => F j ∨ wr.heap.size ≤ j) wr w2 := k1.trans (Ke.of_gr gB)
  have k3 : Ke (fun j => F j ∨ wr.heap.size ≤ j) wr w3 := k2.trans (K3.mono (fun j _ q => .inr (by omega)))
  have k4 : Ke (fun j => F j ∨ wr.heap.size ≤ j) wr w4 := k3.trans (Ke.of_gr g4)
  have k5 : Ke (fun j => F j ∨ wr.heap.size ≤ j) wr w5 := k4.trans (K5.mono (fun j _ q => .inr (by have := hu j q; omega)))
  refine ⟨FO.go w5 c' F' h5 hc k5 sv.ft, dx.ke k5 (fun q => ?_) (fun q => ?_)⟩
  · rcases q with q | q
    · exact FO.nx q
    · omega
  · rcases q with q | q
    · exact FO.nd q
    · omega
/-- Both tables did it. -/
theorem hands_both {w : World} {S : List Tk} {d : De} {t : Int} {m pa pb bx bd : Nat} {wr : World} (h : Hb w S d t (2 * m) pa pb bx bd 2 wr) : Ow w pa pb (2 * (m + 1)) (haS S d t) wr := by
  obtain ⟨ca, cb, Fa, Fb, T, h1, h2⟩ := h
  exact ⟨ca, cb, Fa, Fb, by simpa using T.a, by simpa using T.b, T.dj, by omega, by omega⟩
end Go.Proofs.YtlpjojegdnconaaDoor
