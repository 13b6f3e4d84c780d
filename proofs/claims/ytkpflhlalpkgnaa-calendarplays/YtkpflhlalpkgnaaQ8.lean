/- Two calendars beside each other; rows of pairs put into them: plain. -/
import Derived.Test.YtkpflhlalpkgnaaO8
import Derived.Test.YtkpflhlalpkgnaaP8
namespace Go.Proofs.Ytkpflhlalpkgnaa
open Go.RowKit Go.Lib Go.Maps
set_option linter.unusedVariables false

/-! ### plain -/
theorem rest_srt {i : Int} {L : List Ky} (h : L.Pairwise le2) : (rest i L).Pairwise le2 := h.sublist List.filter_sublist
theorem rest_ins_same (x : Ky) {i : Int} (hx : x.2 = i) {L : List Ky} (h : L.Pairwise le2) : rest i (ins x L) = rest i L := by
  refine srt_unique (rest_srt (ins_srt x h)) (rest_srt h) ?_
  have := (ins_perm x L).filter (fun y => decide (y.2 ≠ i))
  rw [List.filter_cons_of_neg (by simp [hx])] at this
  exact this
theorem rest_ins_other (x : Ky) {i : Int} (hx : x.2 ≠ i) {L : List Ky} (h : L.Pairwise le2) : rest i (ins x L) = ins x (rest i L) := by
  refine srt_unique (rest_srt (ins_srt x h)) (ins_srt x (rest_srt h)) ?_
  have := (ins_perm x L).filter (fun y => decide (y.2 ≠ i))
  rw [List.filter_cons_of_pos (by simpa using hx)] at this
  exact this.trans (ins_perm x (rest i L)).symm
theorem rest_rest (i : Int) (L : List Ky) : rest i (rest i L) = rest i L := by
  unfold rest
  rw [List.filter_filter]
  simp
theorem rest_le (i : Int) (L : List Ky) : (rest i L).length ≤ L.length := List.length_filter_le _ _

/-- The first n of a row, in order. -/
def allIn (q : Nat → Ky) : Nat → List Ky
  | 0 => []
  | n + 1 => ins (q n) (allIn q n)
theorem allIn_srt (q : Nat → Ky) : ∀ n, (allIn q n).Pairwise le2
  | 0 => .nil
  | n + 1 => ins_srt (q n) (allIn_srt q n)
theorem allIn_len (q : Nat → Ky) : ∀ n, (allIn q n).length = n
  | 0 => rfl
  | n + 1 => by rw [allIn, ins_len, allIn_len q n]
theorem allIn_mem (q : Nat → Ky) : ∀ n x, x ∈ allIn q n → ∃ k, k < n ∧ x = q k
  | 0, x, h => by cases h
  | n + 1, x, h => by
    rcases List.mem_cons.1 ((ins_perm (q n) (allIn q n)).mem_iff.1 h) with e | e
    · exact ⟨n, by omega, e⟩
    · obtain ⟨k, hk, e⟩ := allIn_mem q n x e
      exact ⟨k, by omega, e⟩

/-! ### two calendars -/
structure Two (w0 w : World) (pa ca : Nat) (Fa : Nat → Prop) (La : List Ky) (pb cb : Nat) (Fb : Nat → Prop) (Lb : List Ky) : Prop where
  a : CL w0 w pa ca Fa La
  b : CL w0 w pb cb Fb Lb
  dis : ∀ j, Fa j → ¬ Fb j
section
variable {w0 w w' : World} {pa ca pb cb ca' cb' : Nat} {Fa Fb : Nat → Prop} {La Lb La' Lb' : List Ky}
theorem Two.gr (h : Two w0 w pa ca Fa La pb cb Fb Lb) (g : Gr w w') : Two w0 w' pa ca Fa La pb cb Fb Lb := ⟨h.a.gr g, h.b.gr g, h.dis⟩
theorem Two.swap (h : Two w0 w pa ca Fa La pb cb Fb Lb) : Two w0 w pb cb Fb Lb pa ca Fa La := ⟨h.b, h.a, fun j q r => h.dis j r q⟩
theorem Two.step {F' : Nat → Prop} (h : Two w0 w pa ca Fa La pb cb Fb Lb) (c : CL w0 w' pa ca' F' La') (s : Sv Fa F' w w') : Two w0 w' pa ca' F' La' pb cb Fb Lb :=
  ⟨c, ⟨h.b.cl.ke s.ke (fun j q r => h.dis j r q), c.below⟩, fun j q r => by
    rcases s.ft j q with e | e
    · exact h.dis j e r
    · have := (h.b.cl.lt r).2; omega⟩
/-- Other blocks turned. -/
theorem Two.ke {G : Nat → Prop} (h : Two w0 w pa ca Fa La pb cb Fb Lb) (k : Ke G w w') (ha : ∀ j, Fa j → ¬ G j) (hb : ∀ j, Fb j → ¬ G j) (hG : ∀ j, G j → w0.heap.size ≤ j) : Two w0 w' pa ca Fa La pb cb Fb Lb :=
  ⟨⟨h.a.cl.ke k ha, below_ke h.a.below k hG⟩, ⟨h.b.cl.ke k hb, below_ke h.a.below k hG⟩, h.dis⟩
end
/-- Two calendars, their blocks apart. -/
def TwoS (w0 : World) (pa ca : Nat) (La : List Ky) (pb cb : Nat) (Lb : List Ky) (w : World) : Prop := ∃ Fa Fb, Two w0 w pa ca Fa La pb cb Fb Lb
section
variable {w0 w w' : World} {pa ca pb cb ca' cb' : Nat} {La Lb La' Lb' : List Ky}
theorem two_put_a (h : TwoS w0 pa ca La pb cb Lb w) (hc : ca + 1 ≤ 65535) (t i : Int) (hi : (Lit.int .i64 i).wf = true) : Calls Try.prog 9 #[.pointer (some ⟨pa, 0, none⟩), .int .i64 t, .int .i64 i] w fun e w' => e = .returned (.tuple #[]) ∧ TwoS w0 pa (ca + 1) (ins (t, i) La) pb cb Lb w' := by
  obtain ⟨Fa, Fb, h⟩ := h
  refine (law_put h.a hc t i hi).mono ?_
  rintro e w' ⟨rfl, F', c, s⟩
  exact ⟨rfl, F', Fb, h.step c s⟩
theorem TwoS.swap (h : TwoS w0 pa ca La pb cb Lb w) : TwoS w0 pb cb Lb pa ca La w := by
  obtain ⟨Fa, Fb, h⟩ := h
  exact ⟨Fb, Fa, h.swap⟩
theorem two_put_b (h : TwoS w0 pa ca La pb cb Lb w) (hc : cb + 1 ≤ 65535) (t i : Int) (hi : (Lit.int .i64 i).wf = true) : Calls Try.prog 9 #[.pointer (some ⟨pb, 0, none⟩), .int .i64 t, .int .i64 i] w fun e w' => e = .returned (.tuple #[]) ∧ TwoS w0 pa ca La pb (cb + 1) (ins (t, i) Lb) w' := by
  refine (two_put_a h.swap hc t i hi).mono ?_
  rintro e w' ⟨rfl, q⟩
  exact ⟨rfl, q.swap⟩
theorem TwoS.gr (h : TwoS w0 pa ca La pb cb Lb w) (g : Gr w w') : TwoS w0 pa ca La pb cb Lb w' := by
  obtain ⟨Fa, Fb, h⟩ := h
  exact ⟨Fa, Fb, h.gr g⟩
theorem TwoS.below (h : TwoS w0 pa ca La pb cb Lb w) : Below w0.heap.size w0 w := by
  obtain ⟨Fa, Fb, h⟩ := h
  exact h.a.below
theorem two_len_a (h : TwoS w0 pa ca La pb cb Lb w) : Calls Try.prog 13 #[.pointer (some ⟨pa, 0, none⟩)] w fun e w' => e = .returned (.int .i64 (La.length : Nat)) ∧ w' = w := by
  obtain ⟨Fa, Fb, h⟩ := h
  exact law_len h.a
theorem two_len_b (h : TwoS w0 pa ca La pb cb Lb w) : Calls Try.prog 13 #[.pointer (some ⟨pb, 0, none⟩)] w fun e w' => e = .returned (.int .i64 (Lb.length : Nat)) ∧ w' = w := two_len_a h.swap
theorem two_drop_a (h : TwoS w0 pa ca La pb cb Lb w) (hc : ca ≤ 65535) (hl : La.length ≤ 1000000) (i : Int) (hi : (Lit.int .i64 i).wf = true) : Calls Try.prog 11 #[.pointer (some ⟨pa, 0, none⟩), .int .i64 i] w fun e w' => e = .returned (.int .i64 ((La.length - (rest i La).length : Nat) : Int)) ∧ TwoS w0 pa ca (rest i La) pb cb Lb w' := by
  obtain ⟨Fa, Fb, h⟩ := h
  refine (law_drop h.a hc hl i hi).mono ?_
  rintro e w' ⟨rfl, F', c, s⟩
  exact ⟨rfl, F', Fb, h.step c s⟩
theorem two_new (hb : Below w0.heap.size w0 w) : Calls Try.prog 8 #[] w fun e w' => e = .returned (.pointer (some ⟨w.heap.size, 0, none⟩)) ∧ Calls Try.prog 8 #[] w' fun e w'' => e = .returned (.pointer (some ⟨w'.heap.size, 0, none⟩)) ∧ TwoS w0 w.heap.size 0 [] w'.heap.size 0 [] w'' := by
  refine (law_new hb).mono ?_
  rintro e w' ⟨rfl, c, g⟩
  refine ⟨rfl, (law_new c.below).mono ?_⟩
  rintro e w'' ⟨rfl, c2, g2⟩
  refine ⟨rfl, _, _, ⟨c.gr g2, c2, fun j q r => ?_⟩⟩
  have h1 : j = w.heap.size := q
  have h2 : j = w'.heap.size := r
  have := (c.cl.lt c.cl.self).2
  omega

/-- A row of ids of the law's own, beside two calendars. -/
structure DuT (w0 : World) (base : Nat) (pa ca : Nat) (La : List Ky) (pb cb : Nat) (Lb : List Ky) (D : List Ky) (v : Value) (w : World) : Prop where
  ex : ∃ Fa Fb, Two w0 w pa ca Fa La pb cb Fb Lb ∧ ∀ g, v.ownBlock = some g → ¬ Fa g ∧ ¬ Fb g
  row : Row w base 3 1 v D.length (idc D)
def DuS (w0 w : World) (pa ca : Nat) (La : List Ky) (pb cb : Nat) (Lb : List Ky) (t : Int) (e : Ending) (w' : World) : Prop := ∃ v, e = .returned v ∧ DuT w0 w.heap.size pa ca (late t La) pb cb Lb (due t La) v w'
theorem two_due_a (h : TwoS w0 pa ca La pb cb Lb w) (hl : La.length ≤ 1000000) (t : Int) : Calls Try.prog 10 #[.pointer (some ⟨pa, 0, none⟩), .int .i64 t] w fun e w' => DuS w0 w pa ca La pb cb Lb t e w' := by
  obtain ⟨Fa, Fb, h⟩ := h
  refine (law_due h.a hl t).mono ?_
  rintro e w' ⟨v, rfl, q⟩
  obtain ⟨F', c, s, n⟩ := q.ex
  refine ⟨v, rfl, ⟨F', Fb, h.step c s, fun g hg => ⟨n g hg, fun r => ?_⟩⟩, q.row⟩
  have := (q.row.lt hg).1
  have := (h.b.cl.lt r).2
  omega
/-- .. and the row stays as it is, while the other one is due. -/
theorem two_due_b {base : Nat} {D : List Ky} {v : Value} (h : DuT w0 base pa ca La pb cb Lb D v w) (hl : Lb.length ≤ 1000000) (t : Int) : Calls Try.prog 10 #[.pointer (some ⟨pb, 0, none⟩), .int .i64 t] w fun e w' => ∃ v', e = .returned v' ∧ DuT w0 base pa ca La pb cb (late t Lb) D v w' ∧ Row w' w.heap.size 3 1 v' (due t Lb).length (idc (due t Lb)) := by
  obtain ⟨Fa, Fb, h1, n1⟩ := h.ex
  refine (law_due h1.b hl t).mono ?_
  rintro e w' ⟨v', rfl, q⟩
  obtain ⟨F', c, s, n⟩ := q.ex
  refine ⟨v', rfl, ⟨⟨Fa, F', (h1.swap.step c s).swap, fun g hg => ⟨(n1 g hg).1, fun r => ?_⟩⟩, h.row.keep (fun g hg => s.ke.block g (h.row.lt hg).2 (n1 g hg).2)⟩, q.row⟩
  rcases s.ft g r with e | e
  · exact (n1 g hg).2 e
  · have := (h.row.lt hg).2; omega
end
end Go.Proofs.Ytkpflhlalpkgnaa
