/- LedgerOrders: plain facts; two ledgers beside each other. -/
import Derived.Test.YtbimaaknjedonaaB4
namespace Go.Proofs.Ytbimaaknjedonaa
open Go.RowKit Go.Lib Go.Maps
set_option linter.unusedVariables false

/-! ### small periods -/
theorem small_dvd {p : Int} (h0 : 1 ≤ p) (h1 : p ≤ 12) : p.natAbs ∣ 27720 := by
  have : p = 1 ∨ p = 2 ∨ p = 3 ∨ p = 4 ∨ p = 5 ∨ p = 6 ∨ p = 7 ∨ p = 8 ∨ p = 9 ∨ p = 10 ∨ p = 11 ∨ p = 12 := by omega
  rcases this with rfl | rfl | rfl | rfl | rfl | rfl | rfl | rfl | rfl | rfl | rfl | rfl <;> decide
theorem numL_le {m : Int} (hm : 0 < m) : ∀ {L : List Wt}, (∀ x ∈ L, x.May ∧ x.p ∣ m) → numL m L ≤ L.length * m
  | [], _ => by simp [numL]
  | y :: l, h => by
    obtain ⟨h0, c, hc⟩ := h y (by simp)
    have hp := h0.p0
    have e : m / y.p = c := by rw [hc]; exact Int.mul_ediv_cancel_left _ (by omega)
    have hc0 : 0 ≤ c := by
      rcases Int.lt_or_le c 0 with q | q
      · exact absurd (Int.mul_neg_of_pos_of_neg (show 0 < y.p by omega) q) (by omega)
      · exact q
    have ih := numL_le hm (L := l) (fun x hx => h x (by simp [hx]))
    have : y.e * c ≤ y.p * c := Int.mul_le_mul_of_nonneg_right h0.e1 hc0
    show y.e * (m / y.p) + numL m l ≤ ((l.length + 1 : Nat) : Int) * m
    rw [e]
    have e2 : ((l.length + 1 : Nat) : Int) * m = l.length * m + m := by rw [Int.natCast_add, Int.add_mul]; simp
    omega
/-- Some tasks of small periods are taken. -/
theorem small_can {L : List Wt} {e p : Int} (h : ∀ x ∈ L, x.May ∧ x.p ≤ 12) (hl : L.length ≤ 63) (he : 1 ≤ e ∧ e ≤ p) (hp : p ≤ 12) : canV 64 L e p = 0 := by
  have hM : ∀ x ∈ L ++ [⟨0, e, p⟩], x.May ∧ x.p ≤ 12 := fun x hx => by
    rcases List.mem_append.1 hx with q | q
    · exact h x q
    · simp at q; subst q; exact ⟨⟨he.1, he.2, by show p ≤ 1048575; omega⟩, hp⟩
  have l : lcmL (L ++ [⟨0, e, p⟩]) ∣ 27720 := lcmL_min fun x hx => small_dvd (hM x hx).1.p0 (hM x hx).2
  have l' := Nat.le_of_dvd (by omega) l
  have P := lcmL_pos (fun x hx => (hM x hx).1)
  have ls := low_sum (fun x hx => (hM x hx).1)
  have nl := numL_le (m := ((lcmL (L ++ [⟨0, e, p⟩]) : Nat) : Int)) (by omega) (fun x hx => ⟨(hM x hx).1, (dvdZ (fun x hx => (hM x hx).1) x hx).2⟩)
  have len : (L ++ [(⟨0, e, p⟩ : Wt)]).length = L.length + 1 := by simp
  rw [len] at nl
  have s : (sumL (L ++ [⟨0, e, p⟩])).num ≤ 64 * (sumL (L ++ [⟨0, e, p⟩])).den := (ls.le_iff 64).2 (Int.le_trans nl (Int.mul_le_mul_of_nonneg_right (by omega) (by omega)))
  rcases canV_cases 64 L e p with ⟨a, _⟩ | ⟨_, ⟨b, q⟩ | ⟨b, ⟨c, q⟩ | ⟨c, q⟩⟩⟩
  · exact absurd ⟨he.1, he.2, by omega⟩ a
  · omega
  · omega
  · exact q
theorem small_add {L : List Wt} {i e p : Int} (h : ∀ x ∈ L, x.May ∧ x.p ≤ 12) (hl : L.length ≤ 63) (he : 1 ≤ e ∧ e ≤ p) (hp : p ≤ 12) (hi : ∀ x ∈ L, x.id ≠ i) : addV 64 L i e p = 0 := by
  unfold addV
  have hno : L.any (fun x => decide (x.id = i)) = false := by
    cases c : L.any (fun x => decide (x.id = i)) with
    | false => rfl
    | true => obtain ⟨x, hx, q⟩ := any_id.1 c; exact absurd q (hi x hx)
  rw [small_can h hl he hp, hno]
  simp

/-! ### the tasks of the law -/
/-- Task i. -/
def Wi (qa qb : Nat → Int) (i : Nat) : Wt := ⟨(i : Int), 1 + qa i % (1 + qb i % 12), 1 + qb i % 12⟩
section
variable {qa qb : Nat → Int}
theorem wi_may (i : Nat) : (Wi qa qb i).May ∧ (Wi qa qb i).p ≤ 12 := by
  have a := Int.emod_nonneg (qb i) (show (12 : Int) ≠ 0 by omega)
  have b := Int.emod_lt_of_pos (qb i) (show (0 : Int) < 12 by omega)
  have c := Int.emod_nonneg (qa i) (show (1 + qb i % 12) ≠ 0 by omega)
  have d := Int.emod_lt_of_pos (qa i) (show 0 < (1 + qb i % 12) by omega)
  exact ⟨⟨by show 1 ≤ 1 + _; omega, by show 1 + _ ≤ 1 + _; omega, by show 1 + _ ≤ _; omega⟩, by show 1 + _ ≤ _; omega⟩
/-- Those of the numbers f 0 .. f (i - 1). -/
def rowL (qa qb : Nat → Int) (f : Nat → Nat) (i : Nat) : List Wt := (List.range i).map (fun j => Wi qa qb (f j))
theorem rowL_succ (f : Nat → Nat) (i : Nat) : rowL qa qb f (i + 1) = rowL qa qb f i ++ [Wi qa qb (f i)] := by unfold rowL; rw [List.range_succ, List.map_append]; rfl
theorem rowL_mem {f : Nat → Nat} {i : Nat} {x : Wt} : x ∈ rowL qa qb f i ↔ ∃ j, j < i ∧ Wi qa qb (f j) = x := by unfold rowL; simp
theorem rowL_len (f : Nat → Nat) (i : Nat) : (rowL qa qb f i).length = i := by unfold rowL; simp
theorem rowL_add {f : Nat → Nat} {i n : Nat} (hi : i < n) (hn : n ≤ 60) (hf : ∀ a b, a < n → b < n → f a = f b → a = b) : addV 64 (rowL qa qb f i) ((f i : Nat) : Int) (Wi qa qb (f i)).e (Wi qa qb (f i)).p = 0 := by
  have m := wi_may (qa := qa) (qb := qb) (f i)
  refine small_add (fun x hx => ?_) (by rw [rowL_len]; omega) ⟨m.1.e0, m.1.e1⟩ m.2 (fun x hx => ?_)
  · obtain ⟨j, _, rfl⟩ := rowL_mem.1 hx
    exact wi_may _
  · obtain ⟨j, hj, rfl⟩ := rowL_mem.1 hx
    intro e
    have : f j = f i := by
      have : ((f j : Nat) : Int) = ((f i : Nat) : Int) := e
      omega
    have := hf j i (by omega) hi this
    omega
theorem remL_filter (i : Int) : ∀ L : List Wt, remL i L = L.filter (fun x => decide (x.id ≠ i))
  | [] => rfl
  | x :: l => by
    unfold remL
    by_cases c : x.id = i
    · rw [if_pos c, remL_filter i l, List.filter_cons_of_neg (by simp [c])]
    · rw [if_neg c, remL_filter i l, List.filter_cons_of_pos (by simp [c])]
/-- Who is left while the even ones go, from below, from above. -/
def upB (i : Int) (x : Wt) : Bool := decide (¬ (x.id % 2 = 0 ∧ x.id < i))
def dnB (i : Int) (x : Wt) : Bool := decide (¬ (x.id % 2 = 0 ∧ i < x.id))
def odd (x : Wt) : Bool := decide (¬ x.id % 2 = 0)
theorem up_step {i : Int} (h : i % 2 = 0) (L : List Wt) : remL i (L.filter (upB i)) = L.filter (upB (i + 2)) := by
  rw [remL_filter, List.filter_filter]
  refine List.filter_congr fun x _ => ?_
  unfold upB
  rw [← Bool.decide_and]
  apply decide_eq_decide.2
  constructor <;> intro q <;> omega
theorem dn_step {i : Int} (h : i % 2 = 0) (L : List Wt) : remL i (L.filter (dnB i)) = L.filter (dnB (i - 2)) := by
  rw [remL_filter, List.filter_filter]
  refine List.filter_congr fun x _ => ?_
  unfold dnB
  rw [← Bool.decide_and]
  apply decide_eq_decide.2
  constructor <;> intro q <;> omega
theorem up_start {L : List Wt} (h : ∀ x ∈ L, 0 ≤ x.id) : L.filter (upB 0) = L := List.filter_eq_self.2 fun x hx => by unfold upB; simp; have := h x hx; omega
theorem up_end {L : List Wt} {i n : Int} (h : ∀ x ∈ L, x.id < n) (hi : n ≤ i) : L.filter (upB i) = L.filter odd := List.filter_congr fun x hx => by
  unfold upB odd
  apply decide_eq_decide.2
  have := h x hx
  constructor <;> intro q <;> omega
theorem dn_start {L : List Wt} {i n : Int} (h : ∀ x ∈ L, x.id < n) (hi : n - 2 ≤ i) (he : i % 2 = 0) : L.filter (dnB i) = L := List.filter_eq_self.2 fun x hx => by unfold dnB; simp; have := h x hx; omega
theorem dn_end {L : List Wt} {i : Int} (h : ∀ x ∈ L, 0 ≤ x.id) (hi : i < 0) : L.filter (dnB i) = L.filter odd := List.filter_congr fun x hx => by
  unfold dnB odd
  apply decide_eq_decide.2
  have := h x hx
  constructor <;> intro q <;> omega
theorem rowL_perm {f : Nat → Nat} {n : Nat} (hf : ∀ a b, a < n → b < n → f a = f b → a = b) (hs : ∀ x, x < n → ∃ a, a < n ∧ f a = x) (hb : ∀ a, a < n → f a < n) : (rowL qa qb (fun j => j) n).Perm (rowL qa qb f n) := by
  have e : rowL qa qb f n = ((List.range n).map f).map (Wi qa qb) := by unfold rowL; rw [List.map_map]; rfl
  rw [e]
  refine List.Perm.map _ ((List.perm_ext_iff_of_nodup List.nodup_range (pairwise_map_ne ?_)).2 fun x => ?_)
  · have : (List.range n).Pairwise (fun a b => a ≠ b) := List.nodup_range
    refine this.imp_of_mem fun {a b} ha hb' hne q => hne (hf a b (List.mem_range.1 ha) (List.mem_range.1 hb') q)
  · rw [List.mem_range, List.mem_map]
    constructor
    · intro hx
      obtain ⟨a, ha, e⟩ := hs x hx
      exact ⟨a, List.mem_range.2 ha, e⟩
    · rintro ⟨a, ha, rfl⟩
      exact hb a (List.mem_range.1 ha)
theorem odd_len : ∀ n, ((rowL qa qb (fun j => j) n).filter odd).length = n / 2
  | 0 => rfl
  | n + 1 => by
    rw [rowL_succ, List.filter_append, List.length_append, odd_len n]
    by_cases c : n % 2 = 0
    · rw [List.filter_cons_of_neg (by unfold odd Wi; simp; omega)]
      simp; omega
    · rw [List.filter_cons_of_pos (by unfold odd Wi; simp; omega)]
      simp; omega
theorem rowL_id {f : Nat → Nat} {n : Nat} (hb : ∀ a, a < n → f a < n) : ∀ x ∈ rowL qa qb f n, 0 ≤ x.id ∧ x.id < n := fun x hx => by
  obtain ⟨j, hj, rfl⟩ := rowL_mem.1 hx
  have := hb j hj
  show 0 ≤ ((f j : Nat) : Int) ∧ ((f j : Nat) : Int) < n
  omega
end
/-- Turned round: the numbers from t on. -/
def tf (n t j : Nat) : Nat := (j + t) % n
theorem tf_lt {n t : Nat} (hn : 0 < n) (a : Nat) : tf n t a < n := Nat.mod_lt _ hn
theorem tf_inj {n t : Nat} : ∀ a b, a < n → b < n → tf n t a = tf n t b → a = b := fun a b ha hb h => by
  unfold tf at h
  have h1 := Nat.div_add_mod (a + t) n
  have h2 := Nat.div_add_mod (b + t) n
  rcases Nat.lt_trichotomy ((a + t) / n) ((b + t) / n) with c | c | c
  · have : n * ((a + t) / n + 1) ≤ n * ((b + t) / n) := Nat.mul_le_mul_left n c
    rw [Nat.mul_add] at this
    omega
  · rw [c] at h1; omega
  · have : n * ((b + t) / n + 1) ≤ n * ((a + t) / n) := Nat.mul_le_mul_left n c
    rw [Nat.mul_add] at this
    omega
theorem tf_sur {n t : Nat} (hn : 0 < n) : ∀ x, x < n → ∃ a, a < n ∧ tf n t a = x := fun x hx => by
  refine ⟨(x + (n - t % n)) % n, Nat.mod_lt _ hn, ?_⟩
  unfold tf
  have ht := Nat.mod_lt t hn
  rw [Nat.mod_add_mod]
  have e : x + (n - t % n) + t = x + n * (t / n + 1) := by
    have := Nat.div_add_mod t n
    rw [Nat.mul_add, Nat.mul_one]
    omega
  rw [e, Nat.add_mul_mod_self_left, Nat.mod_eq_of_lt hx]

/-! ### two ledgers -/
def T2 (w0 w : World) (x y : Lg) : Prop :=
  ∃ S T, Led w S x.l x.k x.L ∧ Led w T y.l y.k y.L ∧ (∀ g, S g → ¬ T g) ∧ (∀ g, S g ∨ T g → w0.heap.size ≤ g) ∧ Gr w0 w
section
variable {w0 w w' : World} {x y : Lg}
theorem T2.swap (h : T2 w0 w x y) : T2 w0 w y x := by
  obtain ⟨S, T, a, b, p, o, g⟩ := h
  exact ⟨T, S, b, a, fun g u v => p g v u, fun g h => o g h.symm, g⟩
theorem T2.gr (h : T2 w0 w x y) (q : Gr w w') : T2 w0 w' x y := by
  obtain ⟨S, T, a, b, p, o, g⟩ := h
  exact ⟨S, T, a.gr q, b.gr q, p, o, g.gr q⟩
theorem T2.out (h : T2 w0 w x y) : Gr w0 w := by
  obtain ⟨S, T, a, b, p, o, g⟩ := h
  exact g
theorem t2_add (h : T2 w0 w x y) (i e p v : Int) (hi : (Lit.int .i64 i).wf = true) (hv : addV x.k x.L i e p = v) :
    Calls Try.prog 10 #[.pointer (some ⟨x.l, 0, none⟩), .int .i64 i, .int .i64 e, .int .i64 p] w fun r w' => r = .returned (.int .i64 v) ∧ T2 w0 w' ⟨x.l, x.k, if v = 0 then x.L ++ [⟨i, e, p⟩] else x.L⟩ y := by
  obtain ⟨S, T, a, b, ap, o, g⟩ := h
  refine (add_any a i e p v hi hv).mono fun r w' ⟨q, S', a', k, s⟩ => ?_
  obtain ⟨b', ap'⟩ := led_beside b ap k s
  refine ⟨q, S', T, a', b', ap', fun g' hg => ?_, Ke.over g k (fun g' hg => o g' (.inl hg))⟩
  rcases hg with hg | hg
  · rcases s g' hg with u | u
    · exact o g' (.inl u)
    · exact Nat.le_trans g.size u
  · exact o g' (.inr hg)
theorem t2_drop (h : T2 w0 w x y) (i : Int) (hi : (Lit.int .i64 i).wf = true) :
    Calls Try.prog 11 #[.pointer (some ⟨x.l, 0, none⟩), .int .i64 i] w fun r w' => r = .returned (.bool (x.L.any (fun x => decide (x.id = i)))) ∧ T2 w0 w' ⟨x.l, x.k, remL i x.L⟩ y := by
  obtain ⟨S, T, a, b, ap, o, g⟩ := h
  refine (drop_any a i hi _ rfl).mono fun r w' ⟨q, a', k⟩ => ?_
  obtain ⟨b', ap'⟩ := led_beside b ap k (Sv.refl S w)
  exact ⟨q, S, T, a', b', ap', o, Ke.over g k (fun g' hg => o g' (.inl hg))⟩
theorem t2_sum (h : T2 w0 w x y) {N D : Int} (hn : (sumL x.L).num = N) (hd : ((sumL x.L).den : Int) = D) : Calls Try.prog 14 #[.pointer (some ⟨x.l, 0, none⟩)] w fun r w' => r = .returned (.agg #[.int .i64 N, .int .i64 D]) ∧ Gr w w' := by
  obtain ⟨S, T, a, b, ap, o, g⟩ := h
  exact sum_any' a ⟨hn, hd, rfl⟩
theorem t2_lcm (h : T2 w0 w x y) {M : Int} (hm : ((lcmL x.L : Nat) : Int) = M) : Calls Try.prog 16 #[.pointer (some ⟨x.l, 0, none⟩)] w fun r w' => r = .returned (.int .i64 M) ∧ Gr w w' := by
  obtain ⟨S, T, a, b, ap, o, g⟩ := h
  exact lcm_any' a ⟨rfl, rfl, hm⟩
theorem t2_len (h : T2 w0 w x y) {n : Nat} (hn : x.L.length = n) : Calls Try.prog 13 #[.pointer (some ⟨x.l, 0, none⟩)] w fun r w' => r = .returned (.int .i64 (n : Nat)) ∧ Gr w w' := by
  obtain ⟨S, T, a, b, ap, o, g⟩ := h
  exact (len_any' a hn).mono fun r w' ⟨q, k⟩ => ⟨q, by rw [k]; exact Ke.refl _ _⟩
end
theorem t2_new {w0 w : World} (g : Gr w0 w) (a b : Int) : T2 w0 ((w.alloc (LO a)).alloc (LO b)) ⟨w.heap.size, cut a, []⟩ ⟨w.heap.size + 1, cut b, []⟩ := by
  have e1 : (w.alloc (LO a)).heap.size = w.heap.size + 1 := by simp
  have A := (led_new a w).gr ((Ke.refl _ _).alloc (LO b))
  have B := led_new b (w.alloc (LO a))
  rw [e1] at B
  have z := g.size
  refine ⟨_, _, A, B, fun g h q => ?_, fun g h => ?_, (g.alloc _).alloc _⟩
  · omega
  · omega
end Go.Proofs.Ytbimaaknjedonaa
