/- Jobs: contracts of Leave, Arrive, Finish, Give by the list of tasks. -/
import Derived.Test.YtlpjojegdnconaaDoorQ3
namespace Go.Proofs.YtlpjojegdnconaaDoor
open Go.RowKit Go.Lib Go.Maps
open Ca (Ke Gr Sv Row Cl Ky Bs blk_other)
set_option linter.unusedVariables false
set_option maxRecDepth 100000
set_option maxHeartbeats 2000000

/-! ### plain -/
def lvB (S : List Tk) (i : Int) : Bool := match getT S i with | none => false | some x => !x.le && !x.ac
def lvE (S : List Tk) (i : Int) : Int := match getT S i with | none => 5 | some x => if x.le = true then 13 else 0
def lvS (S : List Tk) (i : Int) : List Tk := match getT S i with | none => S | some x => if x.le = true then S else if x.ac = true then setT S (leaT x) else delT S i
def arE (S : List Tk) (i : Int) : Int := match getT S i with | none => 5 | some x => if x.sp = false then 9 else if x.le = true then 13 else if x.ac = true ∨ x.wa = true then 10 else 0
def arS (S : List Tk) (i : Int) : List Tk := match getT S i with | none => S | some x => if x.sp = false then S else if x.le = true then S else if x.ac = true ∨ x.wa = true then S else setT S (waiT x)
def fiE (S : List Tk) (i : Int) : Int := match getT S i with | none => 5 | some x => if x.ac = false then 11 else if x.dn = true ∨ x.g = x.e then 12 else 0
def fiS (S : List Tk) (i : Int) : List Tk := match getT S i with | none => S | some x => if x.ac = false then S else if x.dn = true ∨ x.g = x.e then S else setT S (donT x)
def gvB (S : List Tk) (i : Int) : Bool := match getT S i with | none => false | some x => x.ac && !decide (x.g = x.e)
def gvS (S : List Tk) (i : Int) : List Tk := match getT S i with | none => S | some x => if x.ac = true ∧ x.g ≠ x.e then setT S (givT x) else S

/-- What a call leaves. -/
def JQ (w : World) (base p n c : Nat) (F : Nat → Prop) (S : List Tk) (w' : World) : Prop := ∃ F', Jb w' base p n c F' S ∧ Sv F F' w w'
theorem jq_same {w : World} {base p n c : Nat} {F : Nat → Prop} {S : List Tk} (h : Jb w base p n c F S) : JQ w base p n c F S w := ⟨F, h, Ca.Sv.refl _ _⟩
theorem jq_gr {w w' : World} {base p n c : Nat} {F : Nat → Prop} {S : List Tk} (h : Jb w base p n c F S) (g : Gr w w') : JQ w base p n c F S w' := ⟨F, h.gr g, Ca.Sv.of_gr g⟩
section
variable {w : World} {base p n c g bm : Nat} {v : Value} {m : Nat} {A : Nat → Option Int} {T : Nat → Tk} {D : DataW Unit} {Fc : Nat → Prop} {L : List Ky} {q cap : Nat} {S : List Tk} {F : Nat → Prop}
theorem jb_of (h : Jx w base p n c g bm v m A T D Fc L) (a : At c A T) (sl : Sl S A T) (lk : Lk A T L) : Jb w base p n c (FJ g bm v Fc) S := ⟨g, bm, v, m, A, T, D, Fc, L, h, a, sl, lk, rfl⟩
theorem jb_set (h : Jx w base p n c g bm (.slice (some ⟨q, 0, none⟩) m cap) m A T D Fc L) (a : At c A T) (sl : Sl S A T) (lk : Lk A T L) {s : Nat} {i : Int} (hs : A s = some i) (k : Nat) (hk : k < 11) (x : Tk) (u : Value) (hf : ∀ o, o < 11 → fld x o = if o = k then u else fld (T s) o) (hid : x.id = i) (ok : OkT c x) (e1 : x.ac = (T s).ac) (e2 : x.r = (T s).r) (e3 : x.p = (T s).p) :
    JQ w base p n c (FJ g bm (.slice (some ⟨q, 0, none⟩) m cap) Fc) (setT S x) (w.setCell ⟨q, s * 11 + k, none⟩ u) := by
  obtain ⟨h1, K⟩ := h.set s k hk x u hf
  have K2 : Ke (FJ g bm (.slice (some ⟨q, 0, none⟩) m cap) Fc) w (w.setCell ⟨q, s * 11 + k, none⟩ u) := Jx.turn_ke K
  exact ⟨_, jb_of h1 (a.set hs hid ok) (sl.set a hs hid) (lk.same e1 e2 e3), ⟨K2, fun _ z => .inl z⟩⟩

theorem fld_lea (x : Tk) (o : Nat) (ho : o < 11) : fld (leaT x) o = if o = 4 then .bool true else fld x o := by
  rcases (show o = 0 ∨ o = 1 ∨ o = 2 ∨ o = 3 ∨ o = 4 ∨ o = 5 ∨ o = 6 ∨ o = 7 ∨ o = 8 ∨ o = 9 ∨ o = 10 by omega) with rfl | rfl | rfl | rfl | rfl | rfl | rfl | rfl | rfl | rfl | rfl <;> rfl
theorem fld_wai (x : Tk) (o : Nat) (ho : o < 11) : fld (waiT x) o = if o = 5 then .bool true else fld x o := by
  rcases (show o = 0 ∨ o = 1 ∨ o = 2 ∨ o = 3 ∨ o = 4 ∨ o = 5 ∨ o = 6 ∨ o = 7 ∨ o = 8 ∨ o = 9 ∨ o = 10 by omega) with rfl | rfl | rfl | rfl | rfl | rfl | rfl | rfl | rfl | rfl | rfl <;> rfl
theorem fld_don (x : Tk) (o : Nat) (ho : o < 11) : fld (donT x) o = if o = 9 then .bool true else fld x o := by
  rcases (show o = 0 ∨ o = 1 ∨ o = 2 ∨ o = 3 ∨ o = 4 ∨ o = 5 ∨ o = 6 ∨ o = 7 ∨ o = 8 ∨ o = 9 ∨ o = 10 by omega) with rfl | rfl | rfl | rfl | rfl | rfl | rfl | rfl | rfl | rfl | rfl <;> rfl
theorem fld_giv (x : Tk) (o : Nat) (ho : o < 11) : fld (givT x) o = if o = 8 then .int .i64 (x.g + 1) else fld x o := by
  rcases (show o = 0 ∨ o = 1 ∨ o = 2 ∨ o = 3 ∨ o = 4 ∨ o = 5 ∨ o = 6 ∨ o = 7 ∨ o = 8 ∨ o = 9 ∨ o = 10 by omega) with rfl | rfl | rfl | rfl | rfl | rfl | rfl | rfl | rfl | rfl | rfl <;> rfl

/-! ### Leave -/
theorem leave_jb (h : Jb w base p n c F S) (i : Int) (hi : (Lit.int .i64 i).wf = true) :
    Calls Tryd.prog 12 #[.pointer (some ⟨p, 0, none⟩), .int .i64 i] w fun e w' => e = .returned (.tuple #[.bool (lvB S i), .int .i64 (lvE S i)]) ∧ JQ w base p n c F (lvS S i) w' := by
  have H0 := Lib.hid h
  obtain ⟨g, bm, v, m, A, T, D, Fc, L, hx, a, sl, lk, rfl⟩ := h.ex
  clear h
  unfold lvB lvE lvS
  cases hg : getT S i with
  | none =>
    have C := Lib.hid (here_none hx hi (sl.not_at a hg))
    clear hx a sl lk hg
    go_enter Tryd.func12, Tryd.ntmps12
    go_wp2_with fail
    refine C.out.mono ?_
    rintro e w1 ⟨rfl, hw⟩
    obtain rfl := hw.symm
    clear hw C
    go_wp2_with fail
    go_ret2
    exact ⟨rfl, jq_same H0.out⟩
  | some x =>
    obtain ⟨s, hs, hT⟩ := sl.back hg
    obtain ⟨hsm, q, cap, rfl⟩ := hx.form hs
    have C := Lib.hid (here_some hx hi hs)
    have k4 := hx.cell hsm (o := 4) (by omega)
    have k6 := hx.cell hsm (o := 6) (by omega)
    have z4 := hx.frozen (s * 11 + 4)
    have ok := a.ok s i hs
    have hid := a.id s i hs
    rw [hT] at k4 k6 ok hid
    simp only [fld] at k4 k6
    have R1 : Hid (x.ac = true → JQ w base p n c (FJ g bm (.slice (some ⟨q, 0, none⟩) m cap) Fc) (setT S (leaT x)) (w.setCell ⟨q, s * 11 + 4, none⟩ (.bool true))) := fun ha => jb_set hx a sl lk hs 4 (by omega) (leaT x) _ (fun o ho => by rw [hT]; exact fld_lea x o ho) hid (ok.lea ha) (by rw [hT]; rfl) (by rw [hT]; rfl) (by rw [hT]; rfl)
    have RM := Lib.hid (remove_any' hx hi hs)
    have R2 : Hid (x.ac = false → ∀ W, RmJ w base p n c g bm (.slice (some ⟨q, 0, none⟩) m cap) m (upd A s none) (upd T s zeroT) Fc L W → JQ w base p n c (FJ g bm (.slice (some ⟨q, 0, none⟩) m cap) Fc) (delT S i) W) := fun ha W ⟨D', h1, h2⟩ => by
      have hT' : ∀ t, t ≠ s → upd T s zeroT t = T t := fun t ht => upd_other _ _ ht
      exact ⟨_, jb_of h1 (a.del hT') (sl.del a hs hT') (lk.del (by rw [hT]; exact ha) hT'), ⟨h2, fun _ z => .inl z⟩⟩
    clear hx a sl lk hg hs hT ok hid hsm
    obtain ⟨le, hle⟩ : ∃ le, x.le = le := ⟨_, rfl⟩
    obtain ⟨ac, hac⟩ : ∃ ac, x.ac = ac := ⟨_, rfl⟩
    rw [hle] at k4
    rw [hac] at k6 R1 R2
    simp only [hle, hac]
    clear hle hac
    go_enter Tryd.func12, Tryd.ntmps12
    go_wp2_with fail
    refine C.out.mono ?_
    rintro e w1 ⟨rfl, hw⟩
    obtain rfl := hw.symm
    clear hw C
    cases le
    · cases ac
      · go_wp2_with fail
        refine RM.out.mono ?_
        rintro e w2 ⟨rfl, h2⟩
        have h3 := R2.out (by simp) _ h2
        have H3 := Lib.hid h3
        clear h2 h3 R2 RM
        go_wp2_with fail
        go_ret2
        exact ⟨rfl, H3.out⟩
      · have H3 := Lib.hid (R1.out (by simp))
        clear R1 R2 RM
        go_wp2_with fail
        go_ret2
        exact ⟨rfl, H3.out⟩
    · clear R1 R2 RM
      go_wp2_with fail
      go_ret2
      exact ⟨rfl, jq_same H0.out⟩

/-! ### Arrive -/
theorem arrive_jb (h : Jb w base p n c F S) (i : Int) (hi : (Lit.int .i64 i).wf = true) :
    Calls Tryd.prog 14 #[.pointer (some ⟨p, 0, none⟩), .int .i64 i] w fun e w' => e = .returned (.int .i64 (arE S i)) ∧ JQ w base p n c F (arS S i) w' := by
  have H0 := Lib.hid h
  obtain ⟨g, bm, v, m, A, T, D, Fc, L, hx, a, sl, lk, rfl⟩ := h.ex
  clear h
  unfold arE arS
  cases hg : getT S i with
  | none =>
    have C := Lib.hid (here_none hx hi (sl.not_at a hg))
    clear hx a sl lk hg
    go_enter Tryd.func14, Tryd.ntmps14
    go_wp2_with fail
    refine C.out.mono ?_
    rintro e w1 ⟨rfl, hw⟩
    obtain rfl := hw.symm
    clear hw C
    go_wp2_with fail
    go_ret
    exact ⟨rfl, jq_same H0.out⟩
  | some x =>
    obtain ⟨s, hs, hT⟩ := sl.back hg
    obtain ⟨hsm, q, cap, rfl⟩ := hx.form hs
    have C := Lib.hid (here_some hx hi hs)
    have k3 := hx.cell hsm (o := 3) (by omega)
    have k4 := hx.cell hsm (o := 4) (by omega)
    have k5 := hx.cell hsm (o := 5) (by omega)
    have k6 := hx.cell hsm (o := 6) (by omega)
    have z5 := hx.frozen (s * 11 + 5)
    have ok := a.ok s i hs
    have hid := a.id s i hs
    rw [hT] at k3 k4 k5 k6 ok hid
    simp only [fld] at k3 k4 k5 k6
    have R1 : Hid (JQ w base p n c (FJ g bm (.slice (some ⟨q, 0, none⟩) m cap) Fc) (setT S (waiT x)) (w.setCell ⟨q, s * 11 + 5, none⟩ (.bool true))) := jb_set hx a sl lk hs 5 (by omega) (waiT x) _ (fun o ho => by rw [hT]; exact fld_wai x o ho) hid ok.wai (by rw [hT]; rfl) (by rw [hT]; rfl) (by rw [hT]; rfl)
    clear hx a sl lk hg hs hT ok hid hsm
    obtain ⟨sp, hsp⟩ : ∃ sp, x.sp = sp := ⟨_, rfl⟩
    obtain ⟨le, hle⟩ : ∃ le, x.le = le := ⟨_, rfl⟩
    obtain ⟨wa, hwa⟩ : ∃ wa, x.wa = wa := ⟨_, rfl⟩
    obtain ⟨ac, hac⟩ : ∃ ac, x.ac = ac := ⟨_, rfl⟩
    rw [hsp] at k3
    rw [hle] at k4
    rw [hwa] at k5
    rw [hac] at k6
    simp only [hsp, hle, hac, hwa]
    clear hsp hle hac hwa
    go_enter Tryd.func14, Tryd.ntmps14
    go_wp2_with fail
    refine C.out.mono ?_
    rintro e w1 ⟨rfl, hw⟩
    obtain rfl := hw.symm
    clear hw C
    cases sp
    · clear R1
      go_wp2_with fail
      go_ret
      exact ⟨rfl, jq_same H0.out⟩
    · cases le
      · cases ac
        · cases wa
          · go_wp2_with fail
            go_ret
            exact ⟨rfl, R1.out⟩
          · clear R1
            go_wp2_with fail
            go_ret
            exact ⟨rfl, jq_same H0.out⟩
        · clear R1
          go_wp2_with fail
          go_ret
          exact ⟨rfl, jq_same H0.out⟩
      · clear R1
        go_wp2_with fail
        go_ret
        exact ⟨rfl, jq_same H0.out⟩
end
end Go.Proofs.YtlpjojegdnconaaDoor
