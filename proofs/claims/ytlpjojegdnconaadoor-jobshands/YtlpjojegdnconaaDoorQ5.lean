/- Jobs: contracts of Finish, Give, IDs by the list of tasks. -/
import Derived.Test.YtlpjojegdnconaaDoorQ4
namespace Go.Proofs.YtlpjojegdnconaaDoor
open Go.RowKit Go.Lib Go.Maps
open Ca (Ke Gr Sv Row Cl Ky Bs blk_other)
set_option linter.unusedVariables false
set_option maxRecDepth 100000
set_option maxHeartbeats 2000000

theorem jq_trans {w W w' : World} {base p n c c' : Nat} {F : Nat → Prop} {S : List Tk} (g : Gr w W) (h : JQ W base p n c F S w') : JQ w base p n c F S w' := by
  obtain ⟨F', h1, h2⟩ := h
  have h3 := (Ca.Sv.of_gr g).trans h2
  exact ⟨F', h1, h3⟩
theorem notB {a : Bool} (h : a ≠ true) : a = false := by cases a <;> simp_all
section
variable {w : World} {base p n c g bm : Nat} {v : Value} {m : Nat} {A : Nat → Option Int} {T : Nat → Tk} {D : DataW Unit} {Fc : Nat → Prop} {L : List Ky} {q cap : Nat} {S : List Tk} {F : Nat → Prop}
theorem finish_jb (h : Jb w base p n c F S) (i : Int) (hi : (Lit.int .i64 i).wf = true) :
    Calls Tryd.prog 16 #[.pointer (some ⟨p, 0, none⟩), .int .i64 i] w fun e w' => e = .returned (.int .i64 (fiE S i)) ∧ JQ w base p n c F (fiS S i) w' := by
  have H0 := Lib.hid h
  obtain ⟨g, bm, v, m, A, T, D, Fc, L, hx, a, sl, lk, rfl⟩ := h.ex
  clear h
  unfold fiE fiS
  cases hg : getT S i with
  | none =>
    have C := Lib.hid (here_none hx hi (sl.not_at a hg))
    clear hx a sl lk hg
    go_enter Tryd.func16, Tryd.ntmps16
    go_wp2_with fail
    refine C.out.mono ?_
    rintro e w1 ⟨rfl, hw⟩
    obtain rfl := hw.symm
    clear hw C
    go_wp2_with fail
    go_ret
    exact ⟨rfl, jq_same H0.out⟩
  | some x =>
    obtain ⟨s, hs, hT⟩ := sl.back hg
    obtain ⟨hsm, q, cap, rfl⟩ := hx.form hs
    have C := Lib.hid (here_some hx hi hs)
    have k1 := hx.cell hsm (o := 1) (by omega)
    have k6 := hx.cell hsm (o := 6) (by omega)
    have k8 := hx.cell hsm (o := 8) (by omega)
    have k9 := hx.cell hsm (o := 9) (by omega)
    have z9 := hx.frozen (s * 11 + 9)
    have ok := a.ok s i hs
    have hid := a.id s i hs
    rw [hT] at k1 k6 k8 k9 ok hid
    simp only [fld] at k1 k6 k8 k9
    have CF := Lib.hid (full_any q (s * 11) x.g x.e w k8 k1)
    have R1 : Hid (x.ac = true → ∀ W, Gr w W → JQ w base p n c (FJ g bm (.slice (some ⟨q, 0, none⟩) m cap) Fc) (setT S (donT x)) (W.setCell ⟨q, s * 11 + 9, none⟩ (.bool true))) := fun ha W G => by
      have h1 := jb_set (hx.gr G) a sl lk hs 9 (by omega) (donT x) _ (fun o ho => by rw [hT]; exact fld_don x o ho) hid (ok.don ha) (by rw [hT]; rfl) (by rw [hT]; rfl) (by rw [hT]; rfl)
      exact jq_trans (c' := c) G h1
    clear hx a sl lk hg hs hT ok hid hsm k1 k8
    obtain ⟨dn, hdn⟩ : ∃ dn, x.dn = dn := ⟨_, rfl⟩
    obtain ⟨ac, hac⟩ : ∃ ac, x.ac = ac := ⟨_, rfl⟩
    obtain ⟨b, hb⟩ : ∃ b, decide (x.g = x.e) = b := ⟨_, rfl⟩
    rw [hdn] at k9
    rw [hac] at k6 R1
    rw [hb] at CF
    have HB := Lib.hid hb
    simp only [hdn, hac]
    clear hdn hac hb
    go_enter Tryd.func16, Tryd.ntmps16
    go_wp2_with fail
    refine C.out.mono ?_
    rintro e w1 ⟨rfl, hw⟩
    obtain rfl := hw.symm
    clear hw C
    cases ac
    · clear R1 CF
      go_wp2_with fail
      go_ret
      exact ⟨rfl, jq_same H0.out⟩
    · cases dn
      · go_wp2_with fail
        refine CF.out.mono ?_
        rintro e w2 ⟨rfl, g2⟩
        have k9' := Ca.gcell g2 k9
        have z9' := (g2.frozen (p := ⟨q, s * 11 + 9, none⟩) (Ca.lt_of_cell k9) (fun z => z)).trans z9
        have G2 := Lib.hid g2
        have R2 := Lib.hid (R1.out (by simp) _ g2)
        clear g2 k9 z9 CF R1
        cases b
        · have hne : ¬ x.g = x.e := by simpa using HB.out
          have E1 := Lib.hid hne
          clear hne HB
          go_wp2_with fail
          go_ret
          exact ⟨by simp, by simpa [E1.out] using R2.out⟩
        · have hne : x.g = x.e := by simpa using HB.out
          have E1 := Lib.hid hne
          clear hne HB R2
          go_wp2_with fail
          go_ret
          exact ⟨by simp, by simpa [E1.out] using jq_gr H0.out G2.out⟩
      · clear R1 CF
        go_wp2_with fail
        go_ret
        exact ⟨by simp, by simpa using jq_same H0.out⟩

theorem give_jb (h : Jb w base p n c F S) (i : Int) (hi : (Lit.int .i64 i).wf = true) :
    Calls Tryd.prog 24 #[.pointer (some ⟨p, 0, none⟩), .int .i64 i] w fun e w' => e = .returned (.bool (gvB S i)) ∧ JQ w base p n c F (gvS S i) w' := by
  have H0 := Lib.hid h
  obtain ⟨g, bm, v, m, A, T, D, Fc, L, hx, a, sl, lk, rfl⟩ := h.ex
  clear h
  unfold gvB gvS
  cases hg : getT S i with
  | none =>
    have C := Lib.hid (find_none hx hi (sl.not_at a hg))
    clear hx a sl lk hg
    go_enter Tryd.func24, Tryd.ntmps24
    go_wp2_with fail
    refine C.out.mono ?_
    rintro e w1 ⟨rfl, hw⟩
    obtain rfl := hw.symm
    clear hw C
    go_wp2_with fail
    go_ret
    exact ⟨rfl, jq_same H0.out⟩
  | some x =>
    obtain ⟨s, hs, hT⟩ := sl.back hg
    obtain ⟨hsm, q, cap, rfl⟩ := hx.form hs
    have C := Lib.hid (find_some hx hi hs)
    have k1 := hx.cell hsm (o := 1) (by omega)
    have k6 := hx.cell hsm (o := 6) (by omega)
    have k8 := hx.cell hsm (o := 8) (by omega)
    have z8 := hx.frozen (s * 11 + 8)
    have ok := a.ok s i hs
    have hid := a.id s i hs
    rw [hT] at k1 k6 k8 ok hid
    simp only [fld] at k1 k6 k8
    have g0 := ok.g0
    have g1 : x.g ≤ 1048575 := by have := ok.ge; have := ok.ep; have := ok.pm; omega
    have CF := Lib.hid (full_any q (s * 11) x.g x.e w k8 k1)
    have R1 : Hid (x.ac = true → x.g ≠ x.e → ∀ W, Gr w W → JQ w base p n c (FJ g bm (.slice (some ⟨q, 0, none⟩) m cap) Fc) (setT S (givT x)) (W.setCell ⟨q, s * 11 + 8, none⟩ (.int .i64 (x.g + 1)))) := fun ha hne W G => by
      have h1 := jb_set (hx.gr G) a sl lk hs 8 (by omega) (givT x) _ (fun o ho => by rw [hT]; exact fld_giv x o ho) hid (ok.giv ha hne) (by rw [hT]; rfl) (by rw [hT]; rfl) (by rw [hT]; rfl)
      exact jq_trans (c' := c) G h1
    clear hx a sl lk hg hs hT ok hid hsm k1
    obtain ⟨ac, hac⟩ : ∃ ac, x.ac = ac := ⟨_, rfl⟩
    obtain ⟨b, hb⟩ : ∃ b, decide (x.g = x.e) = b := ⟨_, rfl⟩
    rw [hac] at k6 R1
    rw [hb] at CF
    have HB := Lib.hid hb
    simp only [hac]
    clear hac hb
    generalize hR : (if ac = true ∧ x.g ≠ x.e then setT S (givT x) else S) = R
    have HR := Lib.hid hR
    clear hR
    go_enter Tryd.func24, Tryd.ntmps24
    go_wp2_with fail
    refine C.out.mono ?_
    rintro e w1 ⟨rfl, hw⟩
    obtain rfl := hw.symm
    clear hw C
    cases ac
    · clear R1 CF
      go_wp2_with fail
      go_ret
      exact ⟨by simp, by rw [← HR.out]; simpa using jq_same H0.out⟩
    · go_wp2_with fail
      refine CF.out.mono ?_
      rintro e w2 ⟨rfl, g2⟩
      have k8' := Ca.gcell g2 k8
      have z8' := (g2.frozen (p := ⟨q, s * 11 + 8, none⟩) (Ca.lt_of_cell k8) (fun z => z)).trans z8
      have G2 := Lib.hid g2
      clear k8 z8 CF
      cases b
      · have hne : ¬ x.g = x.e := by simpa using HB.out
        have E1 := Lib.hid hne
        have R2 := Lib.hid (R1.out (by simp) hne _ g2)
        clear hne HB R1 g2
        go_wp2_with fail
        go_ret
        exact ⟨by simp [E1.out], by rw [← HR.out]; simpa [E1.out] using R2.out⟩
      · have hne : x.g = x.e := by simpa using HB.out
        have E1 := Lib.hid hne
        clear hne HB R1 g2
        go_wp2_with fail
        go_ret
        exact ⟨by simp [E1.out], by rw [← HR.out]; simpa [E1.out] using jq_gr H0.out G2.out⟩

/-! ### IDs -/
/-- A row of numbers of the call's own. -/
def iR (l : List Int) (j : Nat) : Value := .int .i64 (l.getD j 0)
abbrev RowI (w : World) (base : Nat) (v : Value) (l : List Int) : Prop := Row w base 3 1 v l.length (iR l)
theorem rowI_of {w : World} {base : Nat} {v : Value} {l : List Int} (h : w.ownsRow base 3 1 v l.length (l.map (Value.int .i64))) : RowI w base v l := by
  show w.ownsRow base 3 1 v l.length ((List.range (l.length * 1)).map (iR l))
  rw [show (List.range (l.length * 1)).map (iR l) = l.map (Value.int .i64) from ?_]
  · exact h
  · refine List.ext_getElem (by simp) fun j h1 h2 => ?_
    have hj : j < l.length := by simpa using h2
    simp [iR, List.getD_eq_getElem?_getD, List.getElem?_eq_getElem hj]
theorem rowI_to {w : World} {base : Nat} {v : Value} {l : List Int} (h : RowI w base v l) : w.ownsRow base 3 1 v l.length (l.map (Value.int .i64)) := by
  have h' : w.ownsRow base 3 1 v l.length ((List.range (l.length * 1)).map (iR l)) := h
  rw [show (List.range (l.length * 1)).map (iR l) = l.map (Value.int .i64) from ?_] at h'
  · exact h'
  · refine List.ext_getElem (by simp) fun j h1 h2 => ?_
    have hj : j < l.length := by simpa using h2
    simp [iR, List.getD_eq_getElem?_getD, List.getElem?_eq_getElem hj]
/-- Numbers handed out in new memory. -/
def IdQ (w : World) (l : List Int) (v : Value) (w' : World) : Prop := RowI w' w.heap.size v l
def IdsJ (w : World) (l : List Int) (e : Ending) (w' : World) : Prop := ∃ v, e = .returned v ∧ RowI w' w.heap.size v l ∧ Gr w w'
theorem ids_jb (h : Jb w base p n c F S) : Calls Tryd.prog 27 #[.pointer (some ⟨p, 0, none⟩)] w fun e w' => IdsJ w (S.map Tk.id) e w' := by
  obtain ⟨g, bm, v, m, A, T, D, Fc, L, hx, a, sl, lk, rfl⟩ := h.ex
  clear h
  have C := Lib.hid (ids_any p g bm n A D w hx.rep)
  have E : Hid (∀ l : List Int, l.Pairwise (· < ·) → (∀ x, x ∈ l ↔ ∃ s, A s = some x) → l = S.map Tk.id) := fun l h1 h2 => sl.ids a h1 h2
  clear hx a sl lk
  go_enter Tryd.func27, Tryd.ntmps27
  go_wp2_with fail
  refine C.out.mono ?_
  rintro e w1 ⟨gi, cap, l, rfl, h1, h2, h3, h4, h5, h6, h7, h8⟩
  have e1 := E.out l h6 h5
  have E1 := Lib.hid e1
  have H8 := Lib.hid (rowI_of h8)
  have H2 : Hid (Gr w w1) := ⟨h2.os, h2.tape, h2.output, h2.size, fun k hk _ => h2.block k hk⟩
  clear C E e1 h1 h2 h3 h4 h5 h6 h7 h8
  go_wp2_with fail
  go_ret
  exact ⟨_, rfl, by rw [← E1.out]; exact H8.out, H2.out⟩
end
end Go.Proofs.YtlpjojegdnconaaDoor
