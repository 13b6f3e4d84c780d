/- A calendar's entries as a list, by time, then by id: plain. -/
import Derived.Test.YtlpjojegdnconaaDoorI8
namespace Go.Proofs.YtlpjojegdnconaaDoor.Ca
set_option linter.unusedVariables false

/-- A time with an id. -/
abbrev Ky : Type := Int × Int
def le2 (a b : Ky) : Prop := a.1 < b.1 ∨ (a.1 = b.1 ∧ a.2 ≤ b.2)
theorem le2_refl (a : Ky) : le2 a a := .inr ⟨rfl, Int.le_refl _⟩
theorem le2_trans {a b c : Ky} (h : le2 a b) (k : le2 b c) : le2 a c := by unfold le2 at *; omega
theorem le2_anti {a b : Ky} (h : le2 a b) (k : le2 b a) : a = b := by
  obtain ⟨a1, a2⟩ := a
  obtain ⟨b1, b2⟩ := b
  unfold le2 at *
  simp only at *
  have e1 : a1 = b1 := by omega
  have e2 : a2 = b2 := by omega
  rw [e1, e2]
theorem le2_total (a b : Ky) : le2 a b ∨ le2 b a := by unfold le2; omega
theorem not_le2 {a b : Ky} (h : ¬ le2 a b) : le2 b a := (le2_total a b).resolve_left h

/-- The time and the id of a mark. -/
def key (M : Nat → Option Rk) (m : Nat) : Ky := match M m with | some r => (r.d, r.i) | none => (0, 0)
theorem key_some {M : Nat → Option Rk} {m : Nat} {r : Rk} (h : M m = some r) : key M m = (r.d, r.i) := by unfold key; rw [h]
theorem key_upd {M : Nat → Option Rk} {m s : Nat} (o : Option Rk) (h : s ≠ m) : key (upd M m o) s = key M s := by unfold key; rw [upd_other _ _ h]

/-- The entries M, in order. -/
structure Rep (M : Nat → Option Rk) (L : List Ky) : Prop where
  srt : L.Pairwise le2
  ex : ∃ ms : List Nat, ms.Nodup ∧ (∀ m, m ∈ ms ↔ M m ≠ none) ∧ L.Perm (ms.map (key M))

theorem Rep.start : Rep (fun _ => none) [] := ⟨.nil, [], .nil, fun m => by simp, by simp⟩
section
variable {M : Nat → Option Rk} {L : List Ky}
theorem Rep.mem (h : Rep M L) {s : Nat} {r : Rk} (hs : M s = some r) : (r.d, r.i) ∈ L := by
  obtain ⟨ms, nd, hm, hp⟩ := h.ex
  refine hp.mem_iff.2 (List.mem_map.2 ⟨s, (hm s).2 (by rw [hs]; simp), key_some hs⟩)
theorem Rep.back (h : Rep M L) {x : Ky} (hx : x ∈ L) : ∃ s r, M s = some r ∧ x = (r.d, r.i) := by
  obtain ⟨ms, nd, hm, hp⟩ := h.ex
  obtain ⟨s, hs, e⟩ := List.mem_map.1 (hp.mem_iff.1 hx)
  cases q : M s with
  | none => exact absurd q ((hm s).1 hs)
  | some r => exact ⟨s, r, q, by rw [← e, key_some q]⟩
theorem Rep.nil (h : Rep M L) (hn : ∀ m, M m = none) : L = [] := by
  cases L with
  | nil => rfl
  | cons x r =>
    obtain ⟨s, r, hs, _⟩ := h.back (x := x) (by simp)
    rw [hn s] at hs; cases hs
/-- One more. -/
theorem Rep.put (h : Rep M L) {m : Nat} (hm : M m = none) (t i : Int) {L' : List Ky} (hs : L'.Pairwise le2) (hp : L'.Perm ((t, i) :: L)) : Rep (upd M m (some ⟨t, 0, 0, i⟩)) L' := by
  obtain ⟨ms, nd, hme, hpe⟩ := h.ex
  have hnm : m ∉ ms := fun q => (hme m).1 q hm
  refine ⟨hs, m :: ms, List.nodup_cons.2 ⟨hnm, nd⟩, fun s => ?_, hp.trans ?_⟩
  · by_cases e : s = m
    · subst e; rw [upd_same]; simp
    · rw [upd_other _ _ e]; simp [e, hme s]
  · rw [List.map_cons, key_some (upd_same _ _ _), show ms.map (key (upd M m (some ⟨t, 0, 0, i⟩))) = ms.map (key M) from List.map_congr_left (fun s hs => key_upd _ (fun e : s = m => hnm (by rw [← e]; exact hs)))]
    exact hpe.cons _
/-- One goes. -/
theorem Rep.drop (h : Rep M L) {s : Nat} {r : Rk} (hs : M s = some r) {L' : List Ky} (hl : L'.Pairwise le2) (hp : L.Perm ((r.d, r.i) :: L')) : Rep (upd M s none) L' := by
  obtain ⟨ms, nd, hme, hpe⟩ := h.ex
  have hsm : s ∈ ms := (hme s).2 (by rw [hs]; simp)
  refine ⟨hl, ms.erase s, nd.erase s, fun m => ?_, ?_⟩
  · rw [nd.mem_erase_iff]
    by_cases e : m = s
    · subst e; rw [upd_same]; simp
    · rw [upd_other _ _ e]; simp [e, hme m]
  · rw [show (ms.erase s).map (key (upd M s none)) = (ms.erase s).map (key M) from List.map_congr_left (fun m hm => key_upd _ (nd.mem_erase_iff.1 hm).1)]
    have e1 : ms.Perm (s :: ms.erase s) := List.perm_cons_erase hsm
    have e2 := e1.map (key M)
    rw [List.map_cons, key_some hs] at e2
    exact (List.perm_cons _).1 ((hp.symm.trans hpe).trans e2)
theorem ahead_le2 {s s' : Nat} {r r' : Rk} (h : ahead 2 ⟨s, r⟩ ⟨s', r'⟩ = true) : le2 (r.d, r.i) (r'.d, r'.i) := by
  rw [ahead_iff, lt_iff, lt_iff] at h
  simp only [if_true] at h
  unfold le2
  simp only
  omega
/-- The first of all is the list's first. -/
theorem Rep.first {x : Ky} (h : Rep M (x :: L)) {s : Nat} {r : Rk} (hf : First 2 M s r) : x = (r.d, r.i) ∧ Rep (upd M s none) L := by
  have hs := List.pairwise_cons.1 h.srt
  have a : le2 x (r.d, r.i) := by
    rcases List.mem_cons.1 (h.mem hf.has) with e | e
    · rw [e]; exact le2_refl _
    · exact hs.1 _ e
  have b : le2 (r.d, r.i) x := by
    obtain ⟨s', r', h', rfl⟩ := h.back (x := x) (by simp)
    by_cases e : s' = s
    · subst e
      rw [hf.has] at h'
      cases h'
      exact le2_refl _
    · exact ahead_le2 (hf.fst s' r' h' e)
  have e := le2_anti a b
  refine ⟨e, h.drop hf.has hs.2 ?_⟩
  rw [e]
end

theorem filter_erase_no {p : Ky → Bool} {x : Ky} (hx : p x = false) : ∀ l : List Ky, (l.erase x).filter p = l.filter p
  | [] => rfl
  | y :: l => by
    by_cases e : y = x
    · subst e; rw [List.erase_cons_head, List.filter_cons_of_neg (by simp [hx])]
    · rw [List.erase_cons_tail (by simpa using e), List.filter_cons, List.filter_cons, filter_erase_no hx l]
theorem take_split {p : Ky → Bool} : ∀ {D R : List Ky}, (∀ x, x ∈ D → p x = true) → (∀ x r, R = x :: r → p x = false) → (D ++ R).takeWhile p = D ∧ (D ++ R).dropWhile p = R
  | [], R, _, hr => by
    cases R with
    | nil => exact ⟨rfl, rfl⟩
    | cons x r => simp [hr x r rfl]
  | x :: D, R, hd, hr => by
    have hx := hd x (by simp)
    obtain ⟨a, b⟩ := take_split (D := D) (R := R) (fun y hy => hd y (by simp [hy])) hr
    simp [hx, a, b]
/-- Lists that are in order and have the same are one. -/
theorem srt_unique {L L' : List Ky} (h : L.Pairwise le2) (h' : L'.Pairwise le2) (hp : L.Perm L') : L = L' := hp.eq_of_pairwise (fun a b _ _ x y => le2_anti x y) h h'

/-- One more, in order. -/
def ins (x : Ky) : List Ky → List Ky
  | [] => [x]
  | y :: l => if x.1 < y.1 ∨ (x.1 = y.1 ∧ x.2 < y.2) then x :: y :: l else y :: ins x l
theorem ins_perm (x : Ky) : ∀ l, (ins x l).Perm (x :: l)
  | [] => .refl _
  | y :: l => by
    unfold ins
    split
    · exact .refl _
    · exact ((ins_perm x l).cons y).trans (List.Perm.swap x y l)
theorem ins_srt (x : Ky) : ∀ {l : List Ky}, l.Pairwise le2 → (ins x l).Pairwise le2
  | [], _ => by simp [ins]
  | y :: l, h => by
    have hc := List.pairwise_cons.1 h
    unfold ins
    split
    · rename_i q
      refine List.pairwise_cons.2 ⟨fun z hz => ?_, h⟩
      have xy : le2 x y := by unfold le2; omega
      rcases List.mem_cons.1 hz with e | e
      · rw [e]; exact xy
      · exact le2_trans xy (hc.1 z e)
    · rename_i q
      refine List.pairwise_cons.2 ⟨fun z hz => ?_, ins_srt x hc.2⟩
      rcases List.mem_cons.1 ((ins_perm x l).mem_iff.1 hz) with e | e
      · rw [e]; unfold le2; omega
      · exact hc.1 z e
theorem ins_len (x : Ky) (l : List Ky) : (ins x l).length = l.length + 1 := by rw [(ins_perm x l).length_eq]; rfl
end Go.Proofs.YtlpjojegdnconaaDoor.Ca
