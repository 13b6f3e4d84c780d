/- Jobs: contracts of find, here, await, remove. -/
import Derived.Test.YtlpjojegdnconaaDoorJ5
import Derived.Deep.RegionHeld3
namespace Go.Proofs.YtlpjojegdnconaaDoor
open Go.RowKit Go.Lib Go.Maps
open Ca (Ke Gr Sv Row Cl Ky Bs blk_other)
set_option linter.unusedVariables false
set_option maxRecDepth 100000
set_option maxHeartbeats 2000000

section
variable {w : World} {base p n c g bm : Nat} {v : Value} {m : Nat} {A : Nat → Option Int} {T : Nat → Tk} {D : DataW Unit} {Fc : Nat → Prop} {L : List Ky} {q cap : Nat}
theorem Jx.form (h : Jx w base p n c g bm v m A T D Fc L) {s : Nat} {i : Int} (hs : A s = some i) : s < m ∧ ∃ q cap, v = .slice (some ⟨q, 0, none⟩) m cap := by
  have h1 := h.tk s (by rw [hs]; simp)
  obtain ⟨q, cap, h2, _⟩ := h.row.form (by omega)
  exact ⟨h1, q, cap, h2⟩
theorem find_some (h : Jx w base p n c g bm (.slice (some ⟨q, 0, none⟩) m cap) m A T D Fc L) {s : Nat} {i : Int} (hi : (Lit.int .i64 i).wf = true) (hs : A s = some i) :
    Calls Tryd.prog 42 #[.pointer (some ⟨p, 0, none⟩), .int .i64 i] w fun e w' => e = .returned (.pointer (some ⟨q, s * 11, none⟩)) ∧ w' = w := by
  have C := Lib.hid (get_some p g bm n A D w h.rep i hi s hs)
  have c67 := h.c67
  have hsm := (h.form hs).1
  have hz : (s : Int) < (m : Int) := by omega
  have hn := h.rep.n4
  have hmn := h.mn
  clear h hs
  go_enter Tryd.func42, Tryd.ntmps42
  go_wp2_with fail
  refine C.out.mono ?_
  rintro e w1 ⟨rfl, hw⟩
  obtain rfl := hw.symm
  clear hw C
  go_wp2_with fail
  go_ret
  exact ⟨rfl, rfl⟩
theorem find_none (h : Jx w base p n c g bm v m A T D Fc L) {i : Int} (hi : (Lit.int .i64 i).wf = true) (hs : ∀ s, A s ≠ some i) :
    Calls Tryd.prog 42 #[.pointer (some ⟨p, 0, none⟩), .int .i64 i] w fun e w' => e = .returned (.pointer none) ∧ w' = w := by
  have C := Lib.hid (get_none p g bm n A D w h.rep i hi hs)
  clear h hs
  go_enter Tryd.func42, Tryd.ntmps42
  go_wp2_with fail
  refine C.out.mono ?_
  rintro e w1 ⟨rfl, hw⟩
  obtain rfl := hw.symm
  clear hw C
  go_wp2_with fail
  go_ret
  exact ⟨rfl, rfl⟩
theorem here_some (h : Jx w base p n c g bm (.slice (some ⟨q, 0, none⟩) m cap) m A T D Fc L) {s : Nat} {i : Int} (hi : (Lit.int .i64 i).wf = true) (hs : A s = some i) :
    Calls Tryd.prog 32 #[.pointer (some ⟨p, 0, none⟩), .int .i64 i] w fun e w' => e = .returned (.tuple #[.pointer (some ⟨q, s * 11, none⟩), .int .i64 0]) ∧ w' = w := by
  have C := Lib.hid (find_some h hi hs)
  clear h hs
  go_enter Tryd.func32, Tryd.ntmps32
  go_wp2_with fail
  refine C.out.mono ?_
  rintro e w1 ⟨rfl, hw⟩
  obtain rfl := hw.symm
  clear hw C
  go_wp2_with fail
  go_ret2
  exact ⟨rfl, rfl⟩
theorem here_none (h : Jx w base p n c g bm v m A T D Fc L) {i : Int} (hi : (Lit.int .i64 i).wf = true) (hs : ∀ s, A s ≠ some i) :
    Calls Tryd.prog 32 #[.pointer (some ⟨p, 0, none⟩), .int .i64 i] w fun e w' => e = .returned (.tuple #[.pointer none, .int .i64 5]) ∧ w' = w := by
  have C := Lib.hid (find_none h hi hs)
  clear h hs
  go_enter Tryd.func32, Tryd.ntmps32
  go_wp2_with fail
  refine C.out.mono ?_
  rintro e w1 ⟨rfl, hw⟩
  obtain rfl := hw.symm
  clear hw C
  go_wp2_with fail
  go_ret2
  exact ⟨rfl, rfl⟩

/-- await: the end of the job is marked. -/
def AwQ (w : World) (base p n c g bm : Nat) (v : Value) (m : Nat) (A : Nat → Option Int) (T : Nat → Tk) (D : DataW Unit) (Fc : Nat → Prop) (L' : List Ky) (w' : World) : Prop := ∃ Fc', Jx w' base p n (c + 1) g bm v m A T D Fc' L' ∧ Sv Fc Fc' w w'
theorem await_any (h : Jx w base p n c g bm (.slice (some ⟨q, 0, none⟩) m cap) m A T D Fc L) {s : Nat} {i : Int} (hs : A s = some i) (hid : (T s).id = i) (ok : OkT (c + 1) (T s)) (hc : c + 1 ≤ 65535) :
    Calls Tryd.prog 39 #[.pointer (some ⟨p, 0, none⟩), .pointer (some ⟨q, s * 11, none⟩)] w fun e w' => e = .returned (.tuple #[]) ∧ AwQ w base p n c g bm (.slice (some ⟨q, 0, none⟩) m cap) m A T D Fc (Ca.ins ((T s).r + (T s).p, i) L) w' := by
  have hsm := (h.form hs).1
  have k7 := h.cell hsm (o := 7) (by omega)
  have k2 := h.cell hsm (o := 2) (by omega)
  have k0 := h.cell hsm (o := 0) (by omega)
  simp only [fld, Nat.add_zero] at k7 k2 k0
  rw [hid] at k0
  have hiw : (Lit.int .i64 i).wf = true := by rw [← hid]; exact ok.wf
  have e1 := ok.e1
  have ep := ok.ep
  have DL := Lib.hid (deadline_any q (s * 11) (T s).r (T s).p w k7 k2 ok.r0 ok.rm (by omega) ok.pm)
  have HC := Lib.hid (fun W (K : Gr w W) => (Ca.cl_put (h.gr K).cl hc ((T s).r + (T s).p) i hiw))
  have HH := Lib.hid h
  clear hs ok k7 k2 hiw e1 ep
  have HI := Lib.hid hid
  have NQ : Hid (¬ Fc q) := HH.out.fv q rfl
  clear h hid hsm
  obtain ⟨r, hr⟩ : ∃ r, (T s).r = r := ⟨_, rfl⟩
  obtain ⟨pp, hp⟩ : ∃ pp, (T s).p = pp := ⟨_, rfl⟩
  rw [hr, hp] at DL HC ⊢
  clear hr hp
  go_enter Tryd.func39, Tryd.ntmps39
  go_wp2_with fail
  refine DL.out.mono ?_
  rintro e w1 ⟨rfl, g1⟩
  have kc : w1.drew.cell? ⟨q, s * 11, none⟩ = some (.int .i64 i) := Ca.gcell g1.drew k0
  have G1 := Lib.hid g1.drew
  have FQ := Lib.hid (HC.out _ g1.drew)
  clear g1 DL k0 HC
  go_upto_region 2 with fail
  go_region_held3 (fun w' => w'.cell? ⟨q, s * 11, none⟩ = some (.int .i64 i))
    (with_reducible first | exact kc | exact kd)
    (first | (go_at_call 53; refine FQ.out.mono ?_; rintro e w2 ⟨rfl, Fc', P2, v2⟩; have kd := (v2.ke.cell (p := ⟨q, s * 11, none⟩) (Ca.lt_of_cell kc) NQ.out).trans kc; have PP := Lib.hid P2; have VV := Lib.hid v2; clear P2 v2))
  go_wp2_with fail
  go_end0
  have hx := HH.out.gr G1.out
  have hy := hx.cal PP.out VV.out
  have hz := (Ca.Sv.of_gr G1.out).trans VV.out
  exact ⟨rfl, Fc', hy, hz⟩

end
end Go.Proofs.YtlpjojegdnconaaDoor
