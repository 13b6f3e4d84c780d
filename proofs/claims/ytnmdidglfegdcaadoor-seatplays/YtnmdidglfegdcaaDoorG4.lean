/- The document's own seats: Sit, plain: the least one that may have a core, again and again. -/
import Derived.Test.YtnmdidglfegdcaaDoorG3
namespace Go.Proofs.YtnmdidglfegdcaaDoor
open Go.RowKit Go.Lib Go.Maps
set_option linter.unusedVariables false
set_option maxRecDepth 100000

def elT (A : Af) (t : Nat) : Sg → Int → Option Nat := if t = 0 then el2 A else el3
def stT (k : Nat) (A : Af) (N : Nf) (l : List Int) (t : Nat) : Sg := if t = 0 then r1 k A N l else if t = 1 then r2 k A N l else sit k A N l
theorem elT0 (A : Af) : elT A 0 = el2 A := rfl
theorem elT1 (A : Af) : elT A 1 = el3 := rfl
theorem selT (A : Af) (t : Nat) : Sel (elT A t) := by unfold elT; split; exact sel2; exact sel3
theorem pass_stT (k : Nat) (A : Af) (N : Nf) (l : List Int) {t : Nat} (ht : t < 2) : pass (elT A t) l (stT k A N l t) = stT k A N l (t + 1) := by
  have : t = 0 ∨ t = 1 := by omega
  rcases this with rfl | rfl <;> rfl
section
variable {k t : Nat} {A : Af} {N : Nf} {l : List Int} {s : Sg} {x : Int} {c : Nat}
theorem ivT (ok : Ok k A N) (hk : k ≤ 64) (hl : l.length ≤ k) (h : Iv k l s) (hx : x ∈ l) (he : elT A t s x = some c) : Iv k l (s.on x c) ∧ s.G x = none ∧ c < k ∧ s.T c = false ∧ (t = 0 → A x = some c) ∧ (t ≠ 0 → c = low s.T) := by
  unfold elT at he
  by_cases q : t = 0
  · rw [if_pos q] at he
    obtain ⟨a, b, d⟩ := el2_spec he
    exact ⟨h.on hx a (ok.lt x c b) d, a, ok.lt x c b, d, fun _ => b, fun z => absurd q z⟩
  · rw [if_neg q] at he
    obtain ⟨a, b, d, e⟩ := el3_low h hk hl hx he
    exact ⟨h.on hx a d e, a, d, e, fun z => absurd z q, fun _ => b⟩
/-- How many have none yet. -/
def un (l : List Int) (s : Sg) : Nat := (l.filter fun x => (s.G x).isNone).length
theorem un_on (hx : x ∈ l) (hG : s.G x = none) : un l (s.on x c) < un l s := by
  unfold un
  have e : (l.filter fun x => (s.G x).isNone).filter (fun y => ((s.on x c).G y).isNone) = l.filter fun y => ((s.on x c).G y).isNone := by
    rw [List.filter_filter]
    refine List.filter_congr fun y _ => ?_
    by_cases q : y = x
    · subst q; rw [on_same]; simp
    · rw [on_other q]; simp
  rw [← e]
  exact List.length_filter_lt_length_iff_exists.2 ⟨x, List.mem_filter.2 ⟨hx, by simp [hG]⟩, by rw [on_same]; simp⟩
/-- On the way over the ids: the least one so far that may. -/
def Sc (el : Sg → Int → Option Nat) (s : Sg) (l : List Int) (i : Nat) (a : Int) : Prop :=
  (a = -1 ∧ ∀ j, j < i → el s (l.getD j 0) = none) ∨ ∃ j : Nat, a = j ∧ j < i ∧ (∃ c, el s (l.getD j 0) = some c) ∧ ∀ j', j' < i → el s (l.getD j' 0) ≠ none → l.getD j 0 ≤ l.getD j' 0
variable {el : Sg → Int → Option Nat} {i : Nat} {a : Int}
theorem Sc.start : Sc el s l 0 (-1) := .inl ⟨rfl, fun j hj => by omega⟩
theorem Sc.skip (h : Sc el s l i a) (he : el s (l.getD i 0) = none) : Sc el s l (i + 1) a := by
  rcases h with ⟨h1, h2⟩ | ⟨j, h1, h2, h3, h4⟩
  · refine .inl ⟨h1, fun j hj => ?_⟩
    by_cases e : j = i
    · rw [e, he]
    · exact h2 j (by omega)
  · refine .inr ⟨j, h1, by omega, h3, fun j' hj' hn => ?_⟩
    by_cases e : j' = i
    · subst e; exact absurd he hn
    · exact h4 j' (by omega) hn
theorem Sc.take (h : Sc el s l i a) (he : el s (l.getD i 0) = some c) (ha : a < 0 ∨ ∃ j : Nat, a = j ∧ l.getD i 0 < l.getD j 0) : Sc el s l (i + 1) i := by
  refine .inr ⟨i, rfl, by omega, ⟨c, he⟩, fun j' hj' hn => ?_⟩
  by_cases e : j' = i
  · rw [e]; exact Int.le_refl _
  · rcases h with ⟨h1, h2⟩ | ⟨j, h1, h2, h3, h4⟩
    · exact absurd (h2 j' (by omega)) hn
    · rcases ha with z | ⟨j2, z1, z2⟩
      · omega
      · have : j2 = j := by omega
        subst this
        have := h4 j' (by omega) hn
        omega
theorem Sc.keep (h : Sc el s l i a) {j : Nat} (hj : a = j) (hl : ¬ l.getD i 0 < l.getD j 0) : Sc el s l (i + 1) a := by
  rcases h with ⟨h1, h2⟩ | ⟨j2, h1, h2, h3, h4⟩
  · omega
  · have : j2 = j := by omega
    subst this
    refine .inr ⟨j2, h1, by omega, h3, fun j' hj' hn => ?_⟩
    by_cases e : j' = i
    · rw [e]; omega
    · exact h4 j' (by omega) hn
theorem mem_getD {y : Int} (hy : y ∈ l) : ∃ j, j < l.length ∧ l.getD j 0 = y := by
  obtain ⟨j, hj, rfl⟩ := List.mem_iff_getElem.1 hy
  exact ⟨j, hj, by simp [List.getD_eq_getElem?_getD, hj]⟩
theorem getD_mem' {j : Nat} (hj : j < l.length) : l.getD j 0 ∈ l := by rw [List.getD_eq_getElem?_getD, List.getElem?_eq_getElem hj]; simp
/-- Nobody may any more. -/
theorem Sc.done (h : Sc el s l l.length a) (ha : a < 0) : pass el (rise l) s = s := by
  rcases h with ⟨h1, h2⟩ | ⟨j, h1, _⟩
  · refine pass_none fun y hy => ?_
    obtain ⟨j, hj, rfl⟩ := mem_getD ((rise_mem l y).1 hy)
    exact h2 j hj
  · omega
/-- The least one that may. -/
theorem Sc.least (hs : Sel el) (hn : l.Nodup) (h : Sc el s l l.length a) (ha : ¬ a < 0) : ∃ j c, a = ((j : Nat) : Int) ∧ j < l.length ∧ el s (l.getD j 0) = some c ∧ pass el (rise l) (s.on (l.getD j 0) c) = pass el (rise l) s := by
  rcases h with ⟨h1, h2⟩ | ⟨j, h1, h2, ⟨c, h3⟩, h4⟩
  · omega
  · refine ⟨j, c, h1, h2, h3, pass_least hs (rise_lt hn) ((rise_mem l _).2 (getD_mem' h2)) h3 fun y hy hlt => ?_⟩
    obtain ⟨j', hj', rfl⟩ := mem_getD ((rise_mem l y).1 hy)
    cases e : el s (l.getD j' 0) with
    | none => rfl
    | some d => have := h4 j' hj' (by rw [e]; simp); omega
end
/-- A core as the document writes it. -/
def cg (s : Sg) (x : Int) : Int := match s.G x with
  | some c => (c : Int)
  | none => -1
theorem cg_some {s : Sg} {x : Int} {c : Nat} (h : s.G x = some c) : cg s x = c := by unfold cg; rw [h]
theorem cg_none {s : Sg} {x : Int} (h : s.G x = none) : cg s x = -1 := by unfold cg; rw [h]
theorem cg_neg {s : Sg} {x : Int} : cg s x < 0 ↔ s.G x = none := by
  unfold cg
  cases s.G x with
  | none => simp
  | some c => simp
end Go.Proofs.YtnmdidglfegdcaaDoor
