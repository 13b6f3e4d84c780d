/- CalendarPlays: the law's own row of deeds, plain and in memory. -/
import Derived.Test.YtkpflhlalpkgnaaS8
namespace Go.Proofs.Ytkpflhlalpkgnaa
open Go.RowKit Go.Lib Go.Maps
set_option linter.unusedVariables false

/-! ### plain -/
/-- A deed of the law's row. -/
structure Dd where
  o : Int
  t : Int
  i : Int
  deriving Inhabited
def ky (d : Dd) : Ky := (d.t, d.i)
def lt2 (a b : Ky) : Prop := a.1 < b.1 ∨ (a.1 = b.1 ∧ a.2 < b.2)
theorem lt2_le {a b : Ky} (h : lt2 a b) : le2 a b := by unfold lt2 at h; unfold le2; omega
theorem not_lt2 {a b : Ky} (h : ¬ lt2 a b) : le2 b a := by unfold lt2 at h; unfold le2; omega
theorem le2_getD {A : List Dd} (h : (A.map ky).Pairwise le2) {j k : Nat} (hjk : j ≤ k) (hk : k < A.length) : le2 (ky (A.getD j default)) (ky (A.getD k default)) := by
  rw [List.getD_eq_getElem?_getD, List.getD_eq_getElem?_getD, List.getElem?_eq_getElem hk, List.getElem?_eq_getElem (show j < A.length by omega)]
  simp only [Option.getD_some]
  by_cases e : j = k
  · subst e; exact le2_refl _
  · have := List.pairwise_iff_getElem.1 h j k (by simp; omega) (by simpa using hk) (by omega)
    simpa using this
theorem mem_take_getD {A : List Dd} {k : Nat} {x : Dd} (h : x ∈ A.take k) : ∃ j, j < k ∧ j < A.length ∧ A.getD j default = x := by
  obtain ⟨j, hj, e⟩ := List.mem_iff_getElem.1 h
  simp only [List.length_take] at hj
  refine ⟨j, by omega, by omega, ?_⟩
  rw [List.getElem_take] at e
  rw [List.getD_eq_getElem?_getD, List.getElem?_eq_getElem (by omega)]
  exact e
theorem mem_drop_getD {A : List Dd} {k : Nat} {x : Dd} (h : x ∈ A.drop k) : ∃ j, k ≤ j ∧ j < A.length ∧ A.getD j default = x := by
  obtain ⟨j, hj, e⟩ := List.mem_iff_getElem.1 h
  simp only [List.length_drop] at hj
  refine ⟨k + j, by omega, by omega, ?_⟩
  rw [List.getElem_drop] at e
  rw [List.getD_eq_getElem?_getD, List.getElem?_eq_getElem (by omega)]
  exact e
/-- The law's own way to put one in. -/
theorem ins_at {A : List Dd} (h : (A.map ky).Pairwise le2) (d : Dd) {at_ : Nat} (ha : at_ ≤ A.length) (h1 : ∀ j, at_ ≤ j → j < A.length → lt2 (ky d) (ky (A.getD j default))) (h2 : at_ = 0 ∨ ¬ lt2 (ky d) (ky (A.getD (at_ - 1) default))) :
    (A.take at_ ++ [d] ++ A.drop at_).map ky = ins (ky d) (A.map ky) := by
  refine srt_unique ?_ (ins_srt _ h) ?_
  · rw [List.append_assoc, List.singleton_append, List.map_append, List.map_cons]
    refine List.pairwise_append.2 ⟨h.sublist (by rw [List.map_take]; exact List.take_sublist _ _), List.pairwise_cons.2 ⟨fun y hy => ?_, h.sublist (by rw [List.map_drop]; exact List.drop_sublist _ _)⟩, fun x hx y hy => ?_⟩
    · obtain ⟨z, hz, rfl⟩ := List.mem_map.1 hy
      obtain ⟨j, hj1, hj2, rfl⟩ := mem_drop_getD hz
      exact lt2_le (h1 j hj1 hj2)
    · obtain ⟨z, hz, rfl⟩ := List.mem_map.1 hx
      obtain ⟨j, hj1, hj2, rfl⟩ := mem_take_getD hz
      rcases List.mem_cons.1 hy with rfl | hy
      · rcases h2 with e | e
        · omega
        · exact le2_trans (le2_getD h (k := at_ - 1) (by omega) (by omega)) (not_lt2 e)
      · obtain ⟨u, hu, rfl⟩ := List.mem_map.1 hy
        obtain ⟨k, hk1, hk2, rfl⟩ := mem_drop_getD hu
        exact le2_getD h (by omega) hk2
  · refine List.Perm.trans ?_ (ins_perm _ _).symm
    rw [← List.map_cons]
    refine List.Perm.map _ ?_
    have e : (d :: A).Perm (d :: (A.take at_ ++ A.drop at_)) := by rw [List.take_append_drop]
    refine List.Perm.trans ?_ e.symm
    rw [List.append_assoc, List.singleton_append]
    exact List.perm_middle
/-- What is due of a row. -/
theorem due_at {A : List Dd} {t : Int} {k : Nat} (hk : k ≤ A.length) (h1 : ∀ j, j < k → (A.getD j default).t ≤ t) (h2 : k = A.length ∨ ¬ (A.getD k default).t ≤ t) : due t (A.map ky) = (A.take k).map ky ∧ late t (A.map ky) = (A.drop k).map ky := by
  have := take_split (p := fun x => decide (x.1 ≤ t)) (D := (A.take k).map ky) (R := (A.drop k).map ky) (fun x hx => by
    obtain ⟨z, hz, rfl⟩ := List.mem_map.1 hx
    obtain ⟨j, hj1, hj2, rfl⟩ := mem_take_getD hz
    simpa [ky] using h1 j hj1) (fun x r e => by
    rcases h2 with q | q
    · rw [List.drop_eq_nil_of_le (by omega)] at e; cases e
    · have hlt : k < A.length := by
        rcases Nat.lt_or_ge k A.length with z | z
        · exact z
        · rw [List.drop_eq_nil_of_le z] at e; cases e
      rw [List.drop_eq_getElem_cons hlt] at e
      cases e
      rw [List.getD_eq_getElem?_getD, List.getElem?_eq_getElem hlt] at q
      exact decide_eq_false q)
  rw [← List.map_append, List.take_append_drop] at this
  exact this
/-- Those that are not of an id. -/
def keepD (i : Int) (A : List Dd) : List Dd := A.filter (fun d => decide (d.i ≠ i))
theorem rest_map (i : Int) (A : List Dd) : rest i (A.map ky) = (keepD i A).map ky := by
  unfold rest keepD
  rw [List.filter_map]
  rfl
theorem take_succ_getD {A : List Dd} {j : Nat} (h : j < A.length) : A.take (j + 1) = A.take j ++ [A.getD j default] := by
  rw [List.take_add_one, List.getD_eq_getElem?_getD, List.getElem?_eq_getElem h]
  rfl
theorem keepD_yes {i : Int} {A : List Dd} {j : Nat} (h : j < A.length) (hi : (A.getD j default).i ≠ i) : keepD i (A.take (j + 1)) = keepD i (A.take j) ++ [A.getD j default] := by
  rw [take_succ_getD h]
  unfold keepD
  rw [List.filter_append]
  congr 1
  generalize A.getD j default = x at hi
  simp [hi]
theorem keepD_no {i : Int} {A : List Dd} {j : Nat} (h : j < A.length) (hi : (A.getD j default).i = i) : keepD i (A.take (j + 1)) = keepD i (A.take j) := by
  rw [take_succ_getD h]
  unfold keepD
  rw [List.filter_append]
  generalize A.getD j default = x at hi
  simp [hi]

/-! ### in memory -/
def cellD (d : Dd) (o : Nat) : Value := if o = 0 then .int .i64 d.o else if o = 1 then .int .i64 d.t else .int .i64 d.i
def dc (A : List Dd) (j : Nat) : Value := cellD (A.getD (j / 3) default) (j % 3)
theorem dc_list (A : List Dd) : (List.range (A.length * 3)).map (dc A) = A.flatMap (fun d => [.int .i64 d.o, .int .i64 d.t, .int .i64 d.i]) := by
  induction A with
  | nil => rfl
  | cons d A ih =>
    rw [List.length_cons, show (A.length + 1) * 3 = 3 + A.length * 3 by omega, List.range_add, List.map_append, List.flatMap_cons, ← ih]
    congr 1
    rw [List.map_map]
    refine List.map_congr_left (fun j hj => ?_)
    simp only [Function.comp, dc]
    rw [show (3 + j) / 3 = j / 3 + 1 by omega, show (3 + j) % 3 = j % 3 by omega]
    rfl
theorem dc_append (A B : List Dd) : (List.range ((A ++ B).length * 3)).map (dc (A ++ B)) = (List.range (A.length * 3)).map (dc A) ++ (List.range (B.length * 3)).map (dc B) := by
  rw [dc_list, dc_list, dc_list, List.flatMap_append]
theorem dc_one (A : List Dd) (j : Nat) : (dc A j).oneCell' = true := by
  unfold dc cellD
  split
  · rfl
  · split <;> rfl
theorem info27 : ∃ i, Try.prog.info? 27 = some i ∧ i.size = 3 ∧ i.bytes = 24 ∧ i.zero = some (.agg #[.int .i64 0, .int .i64 0, .int .i64 0]) := by
  have h1 : (Try.prog.info? 27).map (·.size) = some 3 := by kernel_rfl
  have h2 : (Try.prog.info? 27).map (·.bytes) = some 24 := by kernel_rfl
  have h3 : (Try.prog.info? 27).map (·.zero) = some (some (.agg #[.int .i64 0, .int .i64 0, .int .i64 0])) := by kernel_rfl
  cases h : Try.prog.info? 27 with
  | none => rw [h] at h1; cases h1
  | some i =>
    rw [h] at h1 h2 h3
    exact ⟨i, rfl, by simpa using h1, by simpa using h2, by simpa using h3⟩
/-- What an append of deeds leaves. -/
structure ApP (w : World) (base : Nat) (v : Value) (A : List Dd) (v' : Value) (w' : World) : Prop where
  row : Row w' base 27 3 v' A.length (dc A)
  gr : w.grownBy w' v.ownBlock
  at_ : v'.ownBlock = v.ownBlock ∨ v'.ownBlock = some w.heap.size
theorem app_dd (w : World) (base : Nat) (v : Value) (A B : List Dd) (h : Row w base 27 3 v A.length (dc A)) (hb : base ≤ w.heap.size) (hl : A.length + B.length ≤ 100000) (a : Addr) (m c : Nat) (hm : m = B.length) (hc : ∀ j, j < m * 3 → w.cell? (a.add j) = some (dc B j)) :
    ∃ v' w1, (∀ ty, (Builtin.append_ #[22, 22] ty #[v, .slice (some a) m c]).run Try.prog w = .ok v' w1) ∧ ApP w base v (A ++ B) v' w1 := by
  subst hm
  obtain ⟨i, hi, h1, h2, h3⟩ := info27
  obtain ⟨v', w1, hr, ho, hg, ha⟩ := append_own_any (P := Try.prog) w base 22 22 27 i _ 3 24 Try.underlying22 hi h3 h1 h2 rfl (by omega) v A.length _ h a B.length c ((List.range (B.length * 3)).map (dc B)) (by simp) (fun j u hj => by
    obtain ⟨hlt, hv⟩ := List.getElem?_eq_some_iff.1 hj
    simp only [List.length_map, List.length_range] at hlt
    rw [List.getElem_map, List.getElem_range] at hv
    rw [← hv]
    exact hc j hlt) (fun u hu => by
    obtain ⟨j, _, rfl⟩ := List.mem_map.1 hu
    exact dc_one B j) (by unfold maxLen; omega) (by omega) hb
  refine ⟨v', w1, fun ty => hr, ?_, hg, ha⟩
  unfold Row
  rw [dc_append, List.length_append]
  exact ho
theorem app_dd_none (w : World) (base : Nat) (v : Value) (A : List Dd) (h : Row w base 27 3 v A.length (dc A)) :
    ∃ v' w1, (∀ ty, (Builtin.append_ #[22, 22] ty #[v, .slice none 0 0]).run Try.prog w = .ok v' w1) ∧ ApP w base v A v' w1 := by
  obtain ⟨i, hi, h1, h2, h3⟩ := info27
  exact ⟨v, w, fun ty => run_append_owned_none w base 22 ty 27 i 3 Try.underlying22 hi v A.length _ h, h, ⟨rfl, rfl, rfl, Nat.le_refl _, fun _ _ _ => rfl⟩, .inl rfl⟩

/-- The row m as the law reads it. -/
structure Mr (w : World) (base : Nat) (F : Nat → Prop) (a : Option Addr) (n cap : Nat) (A : List Dd) : Prop where
  len : A.length = n
  nc : n ≤ cap
  cm : cap ≤ maxLen
  at_ : (a = none ∧ cap = 0) ∨ ∃ g off, a = some ⟨g, off, none⟩ ∧ base ≤ g ∧ g < w.heap.size ∧ ¬ F g ∧ ∀ j, j < n * 3 → w.cell? ⟨g, off + j, none⟩ = some (dc A j)
section
variable {w w' : World} {base : Nat} {F F' : Nat → Prop} {a : Option Addr} {n cap : Nat} {A : List Dd}
theorem Mr.sv (h : Mr w base F a n cap A) (s : Sv F F' w w') : Mr w' base F' a n cap A := by
  refine { h with at_ := ?_ }
  rcases h.at_ with e | ⟨g, off, e, hb, hl, hn, hc⟩
  · exact .inl e
  · obtain ⟨e1, l1, n1⟩ := sv_not s hl hn
    exact .inr ⟨g, off, e, hb, l1, n1, fun j hj => (World.cell?_of_block (a := ⟨g, off + j, none⟩) e1).trans (hc j hj)⟩
theorem Mr.gr (h : Mr w base F a n cap A) (g : Gr w w') : Mr w' base F a n cap A := h.sv (Sv.of_gr g)
/-- Other blocks turned. -/
theorem Mr.ke {G : Nat → Prop} (h : Mr w base F a n cap A) (k : Ke G w w') (hG : ∀ g off, a = some ⟨g, off, none⟩ → ¬ G g) : Mr w' base F a n cap A := by
  refine { h with at_ := ?_ }
  rcases h.at_ with e | ⟨g, off, e, hb, hl, hn, hc⟩
  · exact .inl e
  · have e1 := k.block g hl (hG g off e)
    exact .inr ⟨g, off, e, hb, Nat.lt_of_lt_of_le hl k.size, hn, fun j hj => (World.cell?_of_block (a := ⟨g, off + j, none⟩) e1).trans (hc j hj)⟩
theorem Mr.start (w : World) (base : Nat) (F : Nat → Prop) : Mr w base F none 0 0 [] := ⟨rfl, Nat.le_refl _, by unfold maxLen; omega, .inl ⟨rfl, rfl⟩⟩
theorem mr_of_row {v : Value} (h : Row w base 27 3 v A.length (dc A)) (hF : ∀ g, v.ownBlock = some g → ¬ F g) : ∃ a cap, v = .slice a A.length cap ∧ Mr w base F a A.length cap A := by
  rcases h.shape with ⟨rfl, hn⟩ | ⟨g, cap, rfl, bg, lg, nc, cm⟩
  · obtain rfl : A = [] := List.eq_nil_of_length_eq_zero hn
    exact ⟨none, 0, rfl, Mr.start _ _ _⟩
  · refine ⟨_, cap, rfl, rfl, nc, cm, .inr ⟨g, 0, rfl, bg, lg, hF g rfl, fun j hj => ?_⟩⟩
    rw [Nat.zero_add]
    exact h.cell j hj
/-- The cells of one. -/
theorem Mr.cells (h : Mr w base F a n cap A) {j : Nat} (hj : j < n) : ∃ g off, a = some ⟨g, off, none⟩ ∧ w.cell? ⟨g, off + j * 3, none⟩ = some (.int .i64 (A.getD j default).o) ∧ w.cell? ⟨g, off + j * 3 + 1, none⟩ = some (.int .i64 (A.getD j default).t) ∧ w.cell? ⟨g, off + j * 3 + 2, none⟩ = some (.int .i64 (A.getD j default).i) := by
  rcases h.at_ with ⟨_, e⟩ | ⟨g, off, e, hb, hl, hn, hc⟩
  · have := h.nc; omega
  · have c := fun o (ho : o < 3) => hc (j * 3 + o) (by omega)
    have d : ∀ o, o < 3 → dc A (j * 3 + o) = cellD (A.getD j default) o := fun o ho => by unfold dc; rw [show (j * 3 + o) / 3 = j by omega, show (j * 3 + o) % 3 = o by omega]
    refine ⟨g, off, e, ?_, ?_, ?_⟩
    · have := c 0 (by omega); rwa [d 0 (by omega)] at this
    · have := c 1 (by omega); rw [d 1 (by omega)] at this; rw [Nat.add_assoc]; exact this
    · have := c 2 (by omega); rw [d 2 (by omega)] at this; rw [Nat.add_assoc]; exact this
end
end Go.Proofs.Ytkpflhlalpkgnaa
