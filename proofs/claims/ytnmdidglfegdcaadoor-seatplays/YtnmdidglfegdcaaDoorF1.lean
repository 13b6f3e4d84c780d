/- What Sit answers, plain: by the state behind it; rows of ids built up. -/
import Derived.Test.YtnmdidglfegdcaaDoorD3
namespace Go.Proofs.YtnmdidglfegdcaaDoor
open Go.RowKit Go.Lib Go.Maps Go.Sort
set_option linter.unusedVariables false
set_option maxRecDepth 100000
set_option maxHeartbeats 4000000

section
variable {k : Nat} {A : Af} {N : Nf} {l : List Int} {x : Int}
theorem sit_some (hk : k ≤ 64) (ok : Ok k A N) (hz : sitE k l = 0) (hx : x ∈ l) : ∃ c, c < k ∧ (sit k A N (rise l)).G x = some c ∧ sitA k A N l x = some c := by
  have hx' := (rise_mem l x).2 hx
  have := sit_all (k := k) (A := A) (N := N) hx'
  cases e : (sit k A N (rise l)).G x with
  | none => exact absurd e this
  | some c =>
    have iv := sit_iv (l := rise l) ok hk (by rw [rise_length]; exact (sitE_zero.1 hz).1)
    refine ⟨c, (iv.mem x c e).2.1, rfl, ?_⟩
    unfold sitA
    rw [if_pos hz, nxA_some e]
theorem sitR_eq (hk : k ≤ 64) (ok : Ok k A N) (hz : sitE k l = 0) : sitR k A N l = l.map fun x => (((sitA k A N l x).getD 0 : Nat) : Int) := by
  unfold sitR sitL
  rw [if_pos hz]
  refine List.map_congr_left fun x hx => ?_
  obtain ⟨c, _, h1, h2⟩ := sit_some hk ok hz hx
  rw [h1, h2]
theorem sitR_length (hz : sitE k l = 0) : (sitR k A N l).length = l.length := by unfold sitR; rw [if_pos hz, sitL_length]
theorem sitR_none (hz : sitE k l ≠ 0) : sitR k A N l = [] := by unfold sitR; rw [if_neg hz]
theorem sitA_out (hk : k ≤ 64) (ok : Ok k A N) (hx : x ∉ l) : sitA k A N l x = A x := by
  unfold sitA
  by_cases hz : sitE k l = 0
  · rw [if_pos hz]
    exact nxA_none (sit_out ok hk (by rw [rise_length]; exact (sitE_zero.1 hz).1) (fun q => hx ((rise_mem l x).1 q)))
  · rw [if_neg hz]
theorem sitA_on (hk : k ≤ 64) (ok : Ok k A N) (hx : x ∈ l) (hN : N x = true) : sitA k A N l x = A x := by
  by_cases hz : sitE k l = 0
  · obtain ⟨c, _, h1, h2⟩ := sit_some hk ok hz hx
    rw [h2, ← h1]
    exact sit_on ok ((rise_mem l x).2 hx) hN
  · unfold sitA; rw [if_neg hz]
theorem sitA_keep (hk : k ≤ 64) (ok : Ok k A N) (h : ∀ x ∈ l, N x = true) : sitA k A N l = A := funext fun x => by
  by_cases hx : x ∈ l
  · exact sitA_on hk ok hx (h x hx)
  · exact sitA_out hk ok hx
theorem sitN_yes (hk : k ≤ 64) (ok : Ok k A N) (hz : sitE k l = 0) : sitN k A N l x = decide (x ∈ l) := by
  unfold sitN
  rw [if_pos hz]
  unfold nxN
  by_cases hx : x ∈ l
  · obtain ⟨c, _, h1, _⟩ := sit_some hk ok hz hx
    rw [h1]; simp [hx]
  · rw [sit_out ok hk (by rw [rise_length]; exact (sitE_zero.1 hz).1) (fun q => hx ((rise_mem l x).1 q))]
    simp [hx]
/-- No two have one core. -/
theorem sitA_inj (hk : k ≤ 64) (ok : Ok k A N) (hz : sitE k l = 0) {y : Int} (hx : x ∈ l) (hy : y ∈ l) (h : sitA k A N l x = sitA k A N l y) : x = y := by
  obtain ⟨c, _, h1, h2⟩ := sit_some hk ok hz hx
  obtain ⟨d, _, h3, h4⟩ := sit_some hk ok hz hy
  rw [h2, h4] at h
  cases h
  exact (sit_iv (l := rise l) ok hk (by rw [rise_length]; exact (sitE_zero.1 hz).1)).inj x y c h1 h3
/-- One that comes back, alone. -/
theorem sit_back (hk : k ≤ 64) (hk1 : 1 ≤ k) (ok : Ok k A N) {c : Nat} (hA : A x = some c) : sitA k A N [x] x = some c := by
  cases hN : N x with
  | true => rw [sitA_on hk ok (by simp) hN, hA]
  | false =>
    have hz : sitE k [x] = 0 := sitE_zero.2 ⟨by simpa using hk1, by simp⟩
    have hr : rise [x] = [x] := rise_of (List.Perm.refl _) (by simp)
    have hc := ok.lt x c hA
    have e1 : el1 A N (start k) x = none := by unfold el1; rw [if_neg (by rw [hN]; simp)]
    have e2 : el2 A (start k) x = some c := by
      unfold el2
      rw [if_pos (show (start k).G x = none from rfl), hA, Option.bind_some, if_neg]
      show ¬ decide (k ≤ c) = true
      simp; omega
    have h1 : (r2 k A N [x]).G x = some c := by
      unfold r2 r1
      rw [show pass (el1 A N) [x] (start k) = start k from pass_none (fun y hy => by simp at hy; rw [hy]; exact e1)]
      rw [pass_cons, step_some e2]
      exact on_same
    unfold sitA
    rw [if_pos hz, hr]
    exact nxA_some (pass_keep fresh3 h1)
/-- In whatever order they are told. -/
theorem sitE_perm {m : List Int} (h : l.Perm m) : sitE k l = sitE k m := by
  unfold sitE
  rw [h.length_eq]
  by_cases d : l.Nodup
  · rw [if_pos d, if_pos ((h.nodup_iff).1 d)]
  · rw [if_neg d, if_neg (fun q => d ((h.nodup_iff).2 q))]
theorem sitA_perm {m : List Int} (h : l.Perm m) : sitA k A N l = sitA k A N m := by unfold sitA; rw [sitE_perm h, rise_eq h]
theorem sitN_perm {m : List Int} (h : l.Perm m) : sitN k A N l = sitN k A N m := by unfold sitN; rw [sitE_perm h, rise_eq h]
end
theorem Row.low {w : World} {base base' : Nat} {e : TypeId} {size : Nat} {v : Value} {n : Nat} {f : Nat → Value} (h : Row w base e size v n f) (hb : base' ≤ base) : Row w base' e size v n f := ⟨h.1, by
  rcases h.2 with q | ⟨g, cap, cur, e, q, r⟩
  · exact .inl q
  · exact .inr ⟨g, cap, cur, e, Nat.le_trans hb q, r⟩⟩
theorem off_row {w : World} {base p bm : Nat} {v : Value} {l : List Int} (h : RowI w base v l) (h1 : p < base) (h2 : bm < base) : Off v p bm := fun b off n c e hn => by
  have := Row.lt h (g := b) (by rw [e]; rfl)
  omega
/-- One number more, in any world that has only new blocks beside those of the row's. -/
theorem row_app {w : World} {base : Nat} {v : Value} {l : List Int} (h : RowI w base v l) (hb : base ≤ w.heap.size) (hl : l.length ≤ 1000000) (x : Int) :
    ∃ v' w1, (∀ ty, (Builtin.append_ #[30, 30] ty #[v, .slice (some ⟨w.heap.size, 0, none⟩) 1 1]).run Tryd.prog (w.alloc (.cells #[.int .i64 x] 3)) = .ok v' w1) ∧ RowI w1 base v' (l ++ [x]) ∧ Ke (fun j => v.ownBlock = some j) w w1 := by
  obtain ⟨v', w1, hr, hg, row, _⟩ := row_more h hb hl x
  exact ⟨v', w1, hr, row, ((Ke.refl _ w).alloc _).grown hg (fun j hj => .inl hj)⟩
end Go.Proofs.YtnmdidglfegdcaaDoor
