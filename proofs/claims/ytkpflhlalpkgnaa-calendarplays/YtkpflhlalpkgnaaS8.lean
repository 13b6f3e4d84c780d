/- CalendarTurns: its plain half; a row of ids appended to another; the first loop. -/
import Derived.Test.YtkpflhlalpkgnaaR8
import Derived.Laws.OwnMore
namespace Go.Proofs.Ytkpflhlalpkgnaa
open Go.RowKit Go.Lib Go.Maps
set_option linter.unusedVariables false

/-! ### plain -/
theorem take_more {p r : Ky → Bool} (hpr : ∀ x, p x = true → r x = true) : ∀ L : List Ky, L.takeWhile r = L.takeWhile p ++ (L.dropWhile p).takeWhile r ∧ L.dropWhile r = (L.dropWhile p).dropWhile r
  | [] => ⟨rfl, rfl⟩
  | x :: L => by
    by_cases h : p x = true
    · obtain ⟨a, b⟩ := take_more hpr L
      rw [List.takeWhile_cons_of_pos h, List.dropWhile_cons_of_pos h, List.takeWhile_cons_of_pos (hpr x h), List.dropWhile_cons_of_pos (hpr x h), a, b]
      exact ⟨rfl, rfl⟩
    · rw [List.takeWhile_cons_of_neg h, List.dropWhile_cons_of_neg h]
      exact ⟨rfl, rfl⟩
theorem due_more {s t : Int} (h : s ≤ t) (L : List Ky) : due t L = due s L ++ due t (late s L) ∧ late t L = late t (late s L) := take_more (fun x hx => by simp at hx ⊢; omega) L
theorem due_none {t : Int} {L : List Ky} (h : ∀ x, x ∈ L → t < x.1) : due t L = [] ∧ late t L = L := by
  cases L with
  | nil => exact ⟨rfl, rfl⟩
  | cons x L =>
    have := h x (by simp)
    unfold due late
    rw [List.takeWhile_cons_of_neg (by simp; omega), List.dropWhile_cons_of_neg (by simp; omega)]
    exact ⟨rfl, rfl⟩
theorem late_mem {t : Int} {x : Ky} : ∀ {L : List Ky}, L.Pairwise le2 → x ∈ late t L → t < x.1 ∧ x ∈ L
  | [], _, h => by cases h
  | y :: L, hs, h => by
    have hc := List.pairwise_cons.1 hs
    unfold late at h
    by_cases e : y.1 ≤ t
    · rw [List.dropWhile_cons_of_pos (by simpa using e)] at h
      obtain ⟨a, b⟩ := late_mem hc.2 h
      exact ⟨a, by simp [b]⟩
    · rw [List.dropWhile_cons_of_neg (by simpa using e)] at h
      rcases List.mem_cons.1 h with rfl | h
      · exact ⟨by omega, by simp⟩
      · have := hc.1 x h
        unfold le2 at this
        exact ⟨by omega, by simp [h]⟩
theorem due_mem {t : Int} {x : Ky} : ∀ {L : List Ky}, x ∈ due t L → x.1 ≤ t ∧ x ∈ L
  | [], h => by cases h
  | y :: L, h => by
    unfold due at h
    by_cases e : y.1 ≤ t
    · rw [List.takeWhile_cons_of_pos (by simpa using e)] at h
      rcases List.mem_cons.1 h with rfl | h
      · exact ⟨e, by simp⟩
      · obtain ⟨a, b⟩ := due_mem (L := L) h
        exact ⟨a, by simp [b]⟩
    · rw [List.takeWhile_cons_of_neg (by simpa using e)] at h
      cases h

/-- Is there such a pair among the first i? -/
def thr (q : Nat → Pr) (t x : Int) : Nat → Bool
  | 0 => false
  | i + 1 => thr q t x i || ((q i).a == t && (q i).b == x)
theorem thr_true (q : Nat → Pr) (t x : Int) : ∀ n j, j < n → (q j).a = t → (q j).b = x → thr q t x n = true
  | 0, j, h, _, _ => by omega
  | n + 1, j, h, ha, hb => by
    unfold thr
    by_cases e : j = n
    · subst e; simp [ha, hb]
    · rw [thr_true q t x n j (by omega) ha hb]; rfl
/-- Who is due at t came in with t. -/
theorem turn_there {q : Nat → Pr} {n : Nat} {t : Int} {k : Nat} (hk : k < (due t (late (t - 1) (allIn (kq q) n))).length) : thr q t ((due t (late (t - 1) (allIn (kq q) n))).getD k (0, 0)).2 n = true := by
  rw [List.getD_eq_getElem?_getD, List.getElem?_eq_getElem hk]
  have hm := List.getElem_mem hk
  generalize (due t (late (t - 1) (allIn (kq q) n)))[k] = x at hm
  obtain ⟨h1, h2⟩ := due_mem hm
  obtain ⟨h3, h4⟩ := late_mem (allIn_srt _ _) h2
  obtain ⟨j, hj, rfl⟩ := allIn_mem _ _ _ h4
  have e1 : (kq q j).1 = (q j).a := rfl
  rw [e1] at h1 h3
  exact thr_true q t _ n j hj (by omega) rfl

/-! ### rows of ids -/
theorem Row.low {w : World} {base base' : Nat} {e : TypeId} {size : Nat} {v : Value} {n : Nat} {f : Nat → Value} (h : Row w base e size v n f) (hb : base' ≤ base) : Row w base' e size v n f := by
  refine ⟨h.1, ?_⟩
  rcases h.2 with hn | ⟨g, cap, cur, rfl, hbg, r⟩
  · exact .inl hn
  · exact .inr ⟨g, cap, cur, rfl, Nat.le_trans hb hbg, r⟩
theorem idc_append (D E : List Ky) : (List.range ((D ++ E).length * 1)).map (idc (D ++ E)) = (List.range (D.length * 1)).map (idc D) ++ (List.range (E.length * 1)).map (idc E) := by
  have one : ∀ A : List Ky, (List.range (A.length * 1)).map (idc A) = A.map (fun x => (.int .i64 x.2 : Value)) := fun A => by
    refine List.ext_getElem (by simp) fun i h1 h2 => ?_
    simp only [List.getElem_map, List.getElem_range, idc]
    rw [List.getD_eq_getElem?_getD, List.getElem?_eq_getElem (by simpa using h2)]
    rfl
  rw [one, one, one, List.map_append]
/-- append of some, or none: where it lies. -/
theorem append_own_any {P : Program} (w : World) (base : Nat) (t ty e : TypeId) (i : TypeInfo) (z : Value) (size bytes : Nat) (ht : P.underlying t = some (.slice e)) (hi : P.info? e = some i) (hz : i.zero = some z)
    (hsize : i.size = size) (hby : i.bytes = bytes) (hzs : z.cells.size = size) (hsz : 0 < size)
    (v : Value) (n : Nat) (xs : List Value) (hown : w.ownsRow base e size v n xs)
    (a : Addr) (m c : Nat) (news : List Value) (hl : news.length = m * size) (hnews : ∀ j u, news[j]? = some u → w.cell? (a.add j) = some u) (h1 : ∀ u ∈ news, u.oneCell' = true)
    (h63 : n + m ≤ maxLen) (hbytes : (n + m) * bytes ≤ 140737488355328) (hbase : base ≤ w.heap.size) :
    ∃ v' w', (Builtin.append_ #[t, t] ty #[v, .slice (some a) m c]).run P w = .ok v' w' ∧ w'.ownsRow base e size v' (n + m) (xs ++ news) ∧ w.grownBy w' v.ownBlock ∧ (v'.ownBlock = v.ownBlock ∨ v'.ownBlock = some w.heap.size) := by
  rcases Nat.eq_zero_or_pos m with h0 | h0
  · subst h0
    obtain ⟨v', w', hr, h2, h3, h4⟩ := run_append_own (P := P) w base t ty e i z size bytes ht hi hz hsize hby hzs hsz v n xs hown a 0 c news hl hnews h1 h63 hbytes hbase
    refine ⟨v', w', hr, h2, h3, .inl ?_⟩
    subst hsize
    rcases hown.2 with ⟨rfl, rfl⟩ | ⟨g, cap, cur, rfl, hbg, hg, hnc, hcm, hcs, htake⟩
    · rw [h4.2 ⟨rfl, rfl⟩]
    · have hr2 := run_append_room (P := P) w t ty e i ht hi g n cap cur hg a 0 c news hl hnews h1 (by omega) (by rw [hl, hcs]; simp; exact Nat.mul_le_mul_right _ hnc)
      rw [hr] at hr2
      cases hr2
      rfl
  · exact append_own_at w base t ty e i z size bytes ht hi hz hsize hby hzs hsz v n xs hown a m c news h0 hl hnews h1 h63 hbytes hbase

/-- append(x, d...): two rows of the law's own. -/
theorem app_rows (w : World) (base : Nat) (v v' : Value) (D E : List Ky) (h : Row w base 3 1 v D.length (idc D)) (h' : Row w base 3 1 v' E.length (idc E)) (hb : base ≤ w.heap.size) (hl : D.length + E.length ≤ 1000000) :
    ∃ v'' w1, (Builtin.append_ #[29, 29] 29 #[v, v']).run Try.prog w = .ok v'' w1 ∧ w.grownBy w1 v.ownBlock ∧ Row w1 base 3 1 v'' (D ++ E).length (idc (D ++ E)) ∧ (v''.ownBlock = v.ownBlock ∨ v''.ownBlock = some w.heap.size) := by
  obtain ⟨i, hi, h1, h2, h3⟩ := info3
  rcases h'.shape with ⟨rfl, he⟩ | ⟨g, cap, rfl, _, lg, _, _⟩
  · obtain rfl : E = [] := List.eq_nil_of_length_eq_zero he
    refine ⟨v, w, run_append_owned_none w base 29 29 3 i 1 Try.underlying29 hi v D.length _ h, ⟨rfl, rfl, rfl, Nat.le_refl _, fun _ _ _ => rfl⟩, by rw [List.append_nil]; exact h, .inl rfl⟩
  · obtain ⟨v'', w1, hr, ho, hg, ha⟩ := append_own_any (P := Try.prog) w base 29 29 3 i _ 1 8 Try.underlying29 hi h3 h1 h2 rfl (by omega) v D.length _ h ⟨g, 0, none⟩ E.length cap ((List.range (E.length * 1)).map (idc E)) (by simp) (fun j u hj => by
      have hj' := (List.getElem?_eq_some_iff.1 hj)
      obtain ⟨hlt, hv⟩ := hj'
      simp only [List.length_map, List.length_range] at hlt
      have := h'.cell j hlt
      rw [List.getElem_map, List.getElem_range] at hv
      rw [← hv]
      have e : (⟨g, 0, none⟩ : Addr).add j = ⟨g, j, none⟩ := by unfold Addr.add; split <;> simp_all
      rw [e]; exact this) (fun u hu => by
      obtain ⟨j, _, rfl⟩ := List.mem_map.1 hu
      rfl) (by unfold maxLen; omega) (by omega) hb
    refine ⟨v'', w1, hr, hg, ?_, ha⟩
    unfold Row
    rw [idc_append, List.length_append]
    exact ho

/-! ### two rows beside two calendars -/
structure DuV (w0 : World) (pa ca : Nat) (La : List Ky) (pb cb : Nat) (Lb : List Ky) (D : List Ky) (v : Value) (E : List Ky) (v' : Value) (w : World) : Prop where
  ex : ∃ Fa Fb, Two w0 w pa ca Fa La pb cb Fb Lb ∧ (∀ g, v.ownBlock = some g → ¬ Fa g ∧ ¬ Fb g)
  r1 : Row w w0.heap.size 3 1 v D.length (idc D)
  r2 : Row w w0.heap.size 3 1 v' E.length (idc E)
section
variable {w0 w w' : World} {pa ca pb cb : Nat} {La Lb D E : List Ky} {v v' : Value}
theorem DuV.gr (h : DuV w0 pa ca La pb cb Lb D v E v' w) (g : Gr w w') : DuV w0 pa ca La pb cb Lb D v E v' w' := by
  obtain ⟨Fa, Fb, t, n⟩ := h.ex
  exact ⟨⟨Fa, Fb, t.gr g, n⟩, h.r1.keep (fun k hk => g.block k (h.r1.lt hk).2 (fun q => q)), h.r2.keep (fun k hk => g.block k (h.r2.lt hk).2 (fun q => q))⟩
theorem turn_due (h : DuT w0 w0.heap.size pa ca La pb cb Lb D v w) (hl : La.length ≤ 1000000) (t : Int) : Calls Try.prog 10 #[.pointer (some ⟨pa, 0, none⟩), .int .i64 t] w fun e w' => ∃ v', e = .returned v' ∧ DuV w0 pa ca (late t La) pb cb Lb D v (due t La) v' w' := by
  obtain ⟨Fa, Fb, h1, n1⟩ := h.ex
  have hs := h1.a.below.size
  refine (law_due h1.a hl t).mono ?_
  rintro e w' ⟨v', rfl, q⟩
  obtain ⟨F', c, s, n⟩ := q.ex
  refine ⟨v', rfl, ⟨F', Fb, h1.step c s, fun g hg => ⟨fun r => ?_, (n1 g hg).2⟩⟩, h.row.keep (fun g hg => s.ke.block g (h.row.lt hg).2 (n1 g hg).1), q.row.low hs⟩
  rcases s.ft g r with e | e
  · exact (n1 g hg).1 e
  · have := (h.row.lt hg).2; omega
theorem turn_app (h : DuV w0 pa ca La pb cb Lb D v E v' w) (hl : D.length + E.length ≤ 1000000) :
    ∃ v'' w1, (Builtin.append_ #[29, 29] 29 #[v, v']).run Try.prog w = .ok v'' w1 ∧ DuT w0 w0.heap.size pa ca La pb cb Lb (D ++ E) v'' w1 := by
  obtain ⟨Fa, Fb, h1, n1⟩ := h.ex
  have hs := h1.a.below.size
  obtain ⟨v'', w1, hr, hg, hrow, ha⟩ := app_rows w w0.heap.size v v' D E h.r1 h.r2 hs hl
  have k1 : Ke (fun k => v.ownBlock = some k) w w1 := (Ke.refl _ w).grown hg (fun k e => .inl e)
  refine ⟨v'', w1, hr, ⟨Fa, Fb, h1.ke k1 (fun j q r => (n1 j r).1 q) (fun j q r => (n1 j r).2 q) (fun j q => (h.r1.lt q).1), fun g hg' => ?_⟩, hrow⟩
  rcases ha with e | e
  · rw [e] at hg'; exact n1 g hg'
  · rw [e] at hg'
    cases hg'
    exact ⟨fun q => by have := (h1.a.cl.lt q).2; omega, fun q => by have := (h1.b.cl.lt q).2; omega⟩
end
end Go.Proofs.Ytkpflhlalpkgnaa
