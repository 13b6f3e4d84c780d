/- A region that draws its order, by an invariant: one step for each operation of the head, whatever has come up before; then the tail, which waits for all of the head. -/
import Derived.Test.YtpaiaoaffoeleaaK4
namespace Go.Proofs.Ytpaiaoaffoeleaa
open Go.RowKit Go.Sort
set_option linter.unusedVariables false

/-- What is waited for stands ahead. -/
def fwdB (ops : Array Oper) (n : Nat) : Bool := (List.range n).all fun i => match ops[i]? with | some o => o.after.all fun e => decide (e.on < i) | none => true
/-- The first n have come up. -/
def canon (s n : Nat) : Array Bool := (Array.range s).map fun j => decide (j < n)
def invB (ops : Array Oper) (n : Nat) : Bool :=
  decide (n < ops.size) && Region.sinkB .any ops n && Region.chainB .any ops n && fwdB ops n && Region.seqB .any ops (ops.size - n) n (canon ops.size n)

/-- How many of the first n have not come up. -/
def cnt (l : Array Bool) : Nat → Nat
  | 0 => 0
  | k + 1 => cnt l k + (if l.getD k false then 0 else 1)

theorem getD_set_same {l : Array Bool} {i : Nat} (h : i < l.size) (b : Bool) : (l.setIfInBounds i true).getD i b = true := by simp [h]

theorem cnt_out {l : Array Bool} {i : Nat} : ∀ n, n ≤ i → cnt (l.setIfInBounds i true) n = cnt l n
  | 0, _ => rfl
  | n + 1, h => by rw [cnt, cnt, cnt_out n (by omega), getD_set_ne false (by omega)]
theorem cnt_set {l : Array Bool} {i : Nat} (hs : i < l.size) (hf : l.getD i false = false) : ∀ n, i < n → cnt (l.setIfInBounds i true) n + 1 = cnt l n
  | 0, h => by omega
  | n + 1, h => by
    by_cases e : i = n
    · subst e
      rw [cnt, cnt, cnt_out i (Nat.le_refl _), getD_set_same hs, hf]
      simp
    · rw [cnt, cnt, getD_set_ne false e, ← cnt_set hs hf n (by omega)]
      omega
theorem cnt_zero {l : Array Bool} : ∀ n, cnt l n = 0 → ∀ i, i < n → l.getD i false = true
  | 0, _, i, h => by omega
  | n + 1, hc, i, h => by
    rw [cnt] at hc
    by_cases e : i = n
    · subst e
      by_cases g : l.getD i false = true
      · exact g
      · rw [if_neg g] at hc; omega
    · exact cnt_zero n (by omega) i (by omega)
theorem cnt_pos {l : Array Bool} : ∀ n f, cnt l n = f + 1 → ∃ i, i < n ∧ l.getD i false = false
  | 0, f, h => by simp [cnt] at h
  | n + 1, f, h => by
    rw [cnt] at h
    by_cases g : l.getD n false = true
    · rw [if_pos g] at h
      obtain ⟨i, h1, h2⟩ := cnt_pos n f (by omega)
      exact ⟨i, by omega, h2⟩
    · exact ⟨n, by omega, by simpa using g⟩
theorem cnt_none : ∀ s n, n ≤ s → cnt (Array.replicate s false) n = n
  | s, 0, _ => rfl
  | s, n + 1, h => by rw [cnt, cnt_none s n (by omega), getD_replicate_false]; simp

section
variable {P : Program} {ops : Array Oper} {Q : Exit → Act → World → Prop}

theorem some_ready {n : Nat} {l : Array Bool} (hf : fwdB ops n = true) (inv : HeadInv .any ops n l) (hn : n ≤ ops.size) : ∀ i, i < n → l.getD i false = false → ∃ j, j ∈ Region.ready .any ops l := by
  intro i
  induction i using Nat.strongRecOn with
  | _ i ih =>
    intro hi hu
    have hio : i < ops.size := by omega
    have ho : ops[i]? = some ops[i] := Array.getElem?_eq_getElem hio
    by_cases hall : ∀ e ∈ ops[i].after, Region.binds .any e = true → l.getD e.on false = true
    · exact ⟨i, mem_ready.2 ⟨getD_in (by rw [inv.size]; exact hio) hu, _, ho, hall⟩⟩
    · simp only [Classical.not_forall] at hall
      obtain ⟨e, he, hb, hl⟩ := hall
      have h1 := List.all_eq_true.1 hf i (List.mem_range.2 hi)
      simp only [ho] at h1
      have h2 := Array.all_eq_true'.1 h1 e he
      simp only [decide_eq_true_eq] at h2
      exact ih e.on h2 (by omega) (by simpa using hl)

theorem inv_any {n : Nat} (hB : invB ops n = true) (I : (Nat → Bool) → Act → World → Prop)
    (step : ∀ L a w i o, I L a w → i < n → ops[i]? = some o → L i = false → (∀ e ∈ o.after, Region.binds .any e = true → L e.on = true) → wpOp P ops Q i (fun a' w' => I (fun j => if j = i then true else L j) a' w') a w)
    (fin : ∀ a w, I (fun j => decide (j < n)) a w → wpList P ops Q (ops.toList.drop n) a w) :
    ∀ f l a w, HeadInv .any ops n l → cnt l n = f → I (fun j => l.getD j false) a w → wpAny P .any ops Q (f + (ops.size - n)) l a w := by
  simp only [invB, Bool.and_eq_true, decide_eq_true_eq] at hB
  obtain ⟨⟨⟨⟨hn, hs⟩, hc⟩, hf⟩, hq⟩ := hB
  intro f
  induction f with
  | zero =>
    intro l a w inv hz h
    have hall := cnt_zero n hz
    have e : l = canon ops.size n := by
      refine Array.ext (by simp [canon, inv.size]) fun i h1 h2 => ?_
      have hio : i < ops.size := by rw [← inv.size]; exact h1
      by_cases g : i < n
      · have := hall i g
        simp [canon, g, h1] at this ⊢
        exact this
      · have := getD_both (inv.tail i (by omega) hio)
        simp [canon, g, h1] at this ⊢
        exact this
    have e2 : (fun j => l.getD j false) = fun j => decide (j < n) := by
      funext j
      rw [e]
      by_cases g : j < ops.size
      · simp [canon, g]
      · simp [canon, g]; omega
    rw [e2] at h
    have hl : (ops.toList.drop n).length = ops.size - n := by simp
    have := wpAny_of_seq (md := .any) (Q' := Q) (ops.toList.drop n) n l a w (fun j => by simp [List.getElem?_drop]) (by rw [hl, e]; exact hq) (fin a w h)
    rw [Nat.zero_add, ← hl]
    exact this
  | succ f ih =>
    intro l a w inv hz h
    obtain ⟨i0, hi0, hu0⟩ := cnt_pos n f hz
    have hu0' : l.getD i0 true = false := getD_in (by rw [inv.size]; omega) hu0
    rw [show f + 1 + (ops.size - n) = (f + (ops.size - n)) + 1 by omega]
    refine ⟨fun h0 => ?_, fun i hi => ?_⟩
    · obtain ⟨j, hj⟩ := some_ready hf inv (by omega) i0 hi0 hu0
      rw [h0] at hj; cases hj
    · have hin : i < n := Nat.lt_of_not_le fun h => tail_waits hs hc hn inv _ i0 rfl hi0 hu0' i h hi
      obtain ⟨hun, o, ho, hall⟩ := mem_ready.1 hi
      refine wpOp_mono (fun a' w' h' => ih _ a' w' (inv.set hi hin) ?_ ?_) (step _ a w i o h hin ho (getD_both hun) hall)
      · have := cnt_set (l := l) (by rw [inv.size]; omega) (getD_both hun) n hin
        omega
      · have e : (fun j => (l.setIfInBounds i true).getD j false) = fun j => if j = i then true else l.getD j false := by
          funext j
          by_cases g : j = i
          · subst g; rw [if_pos rfl]; exact getD_set_same (by rw [inv.size]; omega) false
          · rw [if_neg g]; exact getD_set_ne false (Ne.symm g)
        rw [e]; exact h'
end

/-- The region, by its invariant. -/
theorem wp_region_inv {P : Program} {id : Nat} {Q : Exit → Act → World → Prop} {a : Act} {w : World} {l : List Oper} (n : Nat) (hm : P.follows .mixedOrders = true) (hB : invB l.toArray n = true) (I : (Nat → Bool) → Act → World → Prop)
    (h0 : I (fun _ => false) a w.drew)
    (step : ∀ L a w i o, I L a w → i < n → l.toArray[i]? = some o → L i = false → (∀ e ∈ o.after, Region.binds .any e = true → L e.on = true) → wpOp P l.toArray Q i (fun a' w' => I (fun j => if j = i then true else L j) a' w') a w)
    (fin : ∀ a w, I (fun j => decide (j < n)) a w → wpList P l.toArray Q (l.drop n) a w) : (Code.region id l.toArray true).wp P Q a w := by
  have hn : n < l.toArray.size := by
    have := hB
    simp only [invB, Bool.and_eq_true, decide_eq_true_eq] at this
    exact this.1.1.1.1
  have inv0 : HeadInv .any l.toArray n (Array.replicate l.toArray.size false) :=
    ⟨by simp, fun j oj _ hl => (by rw [getD_replicate_false] at hl; cases hl), fun t _ ht => getD_in (by simpa using ht) (getD_replicate_false _ _)⟩
  have := inv_any (P := P) (Q := Q) hB I step (by simpa using fin) n _ a w.drew inv0 (cnt_none _ n (by omega)) (by
    have e : (fun j => (Array.replicate l.toArray.size false).getD j false) = fun _ => false := funext fun j => getD_replicate_false _ _
    rw [e]; exact h0)
  rw [show n + (l.toArray.size - n) = l.toArray.size by omega] at this
  exact wp_region_any hm this
end Go.Proofs.Ytpaiaoaffoeleaa
