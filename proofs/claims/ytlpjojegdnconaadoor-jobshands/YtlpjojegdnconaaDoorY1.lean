/- JobsHands: two tables that go the same way; one of them at a time. -/
import Derived.Test.YtlpjojegdnconaaDoorX1
namespace Go.Proofs.YtlpjojegdnconaaDoor
open Go.RowKit Go.Lib Go.Maps
open Ca (Ke Gr Sv Row Cl Ky Bs blk_other)
set_option linter.unusedVariables false
set_option maxRecDepth 100000
set_option maxHeartbeats 8000000

/-- What a deed makes of the tasks. -/
def haS (S : List Tk) (d : De) (t : Int) : List Tk :=
  if d.o = 0 ∨ d.o = 1 then joS S 12 d.i d.e d.p d.s else if d.o = 2 then lvS S d.i else if d.o = 3 then arS S d.i else if d.o = 4 then fiS S d.i else if d.o = 5 ∨ d.o = 6 then relT t S else if d.o = 7 ∨ d.o = 8 then stlT t S else gvS S d.i
theorem jw_len {w0 w : World} {p n c : Nat} {F : Nat → Prop} {S : List Tk} (h : JW w0 w p n c F S) : S.length ≤ n := by
  obtain ⟨g, bm, v, m, A, T, D, Fc, L, hx, a, sl, lk, rfl⟩ := h.jb.ex
  rw [sl.length a hx.rep.out]
  exact cnt_le A n
theorem relI_len (S : List Tk) : (relI S).length ≤ S.length := by
  unfold relI
  rw [List.length_map]
  exact List.length_filter_le _ _
/-- Two tables beside each other, aside of two boxes. -/
structure Tw (w : World) (pa pb bx bd ca cb : Nat) (Fa Fb : Nat → Prop) (Sa Sb : List Tk) (wr : World) : Prop where
  a : JW w wr pa 12 ca Fa Sa
  b : JW w wr pb 12 cb Fb Sb
  dj : ∀ j, Fa j → ¬ Fb j
  ax : ¬ Fa bx
  ad : ¬ Fa bd
  bx' : ¬ Fb bx
  bd' : ¬ Fb bd
/-- The state within a deed: k of the tables did it. -/
def Hb (w : World) (S : List Tk) (d : De) (t : Int) (i pa pb bx bd k : Nat) (wr : World) : Prop := ∃ ca cb Fa Fb, Tw w pa pb bx bd ca cb Fa Fb (if 1 ≤ k then haS S d t else S) (if 2 ≤ k then haS S d t else S) wr ∧ ca ≤ 12 * (i + k) ∧ cb ≤ 12 * (i + k)
/-- The one whose turn it is. -/
structure Fo (w : World) (S : List Tk) (d : De) (t : Int) (i pa pb bx bd k p c : Nat) (F : Nat → Prop) (wr : World) : Prop where
  pk : p = if k = 0 then pa else pb
  jw : JW w wr p 12 c F S
  cb : c ≤ 12 * (i + k)
  nx : ¬ F bx
  nd : ¬ F bd
  go : ∀ W c' F', JW w W p 12 c' F' (haS S d t) → c' ≤ c + 12 → Ke (fun j => F j ∨ wr.heap.size ≤ j) wr W → (∀ j, F' j → F j ∨ wr.heap.size ≤ j) → Hb w S d t i pa pb bx bd (k + 1) W
theorem hb_focus {w : World} {S : List Tk} {d : De} {t : Int} {i pa pb bx bd k : Nat} {wr : World} (h : Hb w S d t i pa pb bx bd k wr) (hk : k < 2) (hbx : bx < wr.heap.size) (hbd : bd < wr.heap.size) : ∃ p c F, Fo w S d t i pa pb bx bd k p c F wr := by
  obtain ⟨ca, cb, Fa, Fb, T, h1, h2⟩ := h
  have other : ∀ {q : Nat} {c2 : Nat} {F G : Nat → Prop} {So : List Tk} {W : World}, JW w wr q 12 c2 G So → (∀ j, F j → w.heap.size ≤ j) → (∀ j, G j → ¬ F j) → Ke (fun j => F j ∨ wr.heap.size ≤ j) wr W → JW w W q 12 c2 G So := fun {q c2 F G So W} hq hl hn K => by
    refine hq.ke K (fun j hj z => ?_) (fun j z => ?_)
    · rcases z with z | z
      · exact hn j hj z
      · have := (hq.jb.lt hj).2; omega
    · rcases z with z | z
      · exact hl j z
      · exact Nat.le_trans hq.gr.size z
  rcases (show k = 0 ∨ k = 1 by omega) with rfl | rfl
  · refine ⟨pa, ca, Fa, rfl, by simpa using T.a, h1, T.ax, T.ad, fun W c' F' hW hc K hF => ?_⟩
    have hb := other T.b T.a.low (fun j hj z => T.dj j z hj) K
    refine ⟨c', cb, F', Fb, ⟨by simpa using hW, by simpa using hb, fun j hj z => ?_, fun z => ?_, fun z => ?_, T.bx', T.bd'⟩, by omega, by omega⟩
    · rcases hF j hj with e | e
      · exact T.dj j e z
      · have := (T.b.jb.lt z).2; omega
    · rcases hF bx z with e | e
      · exact T.ax e
      · omega
    · rcases hF bd z with e | e
      · exact T.ad e
      · omega
  · refine ⟨pb, cb, Fb, rfl, by simpa using T.b, h2, T.bx', T.bd', fun W c' F' hW hc K hF => ?_⟩
    have ha := other T.a T.b.low (fun j hj z => T.dj j hj z) K
    refine ⟨ca, c', Fa, F', ⟨by simpa using ha, by simpa using hW, fun j hj z => ?_, T.ax, T.ad, fun z => ?_, fun z => ?_⟩, by omega, by omega⟩
    · rcases hF j z with e | e
      · exact T.dj j hj e
      · have := (T.a.jb.lt hj).2; omega
    · rcases hF bx z with e | e
      · exact T.bx' e
      · omega
    · rcases hF bd z with e | e
      · exact T.bd' e
      · omega
end Go.Proofs.YtlpjojegdnconaaDoor
