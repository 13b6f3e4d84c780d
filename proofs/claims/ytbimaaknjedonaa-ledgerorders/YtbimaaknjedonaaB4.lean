/- Several ledgers beside each other; LedgerKnown walked. -/
import Derived.Test.YtbimaaknjedonaaB2
namespace Go.Proofs.Ytbimaaknjedonaa
open Go.RowKit Go.Lib Go.Maps
set_option linter.unusedVariables false

/-- A ledger: where it lies, its cores, what it holds. -/
structure Lg where
  l : Nat
  k : Int
  L : List Wt
/-- What is done to one leaves another as it was, and apart. -/
theorem led_beside {w w' : World} {S S' T : Nat → Prop} {y : Lg} (h : Led w T y.l y.k y.L) (ap : ∀ g, S g → ¬ T g) (k : Ke S w w') (sv : Sv S S' w) : Led w' T y.l y.k y.L ∧ ∀ g, S' g → ¬ T g :=
  ⟨h.ke k (fun g hg q => ap g q hg), fun g hg q => by
    rcases sv g hg with z | z
    · exact ap g z q
    · have := h.lt q; omega⟩
/-- Three ledgers in a law that began at w0. -/
def T3 (w0 w : World) (x y z : Lg) : Prop :=
  ∃ S T U, Led w S x.l x.k x.L ∧ Led w T y.l y.k y.L ∧ Led w U z.l z.k z.L ∧ (∀ g, S g → ¬ T g) ∧ (∀ g, S g → ¬ U g) ∧ (∀ g, T g → ¬ U g) ∧ (∀ g, S g ∨ T g ∨ U g → w0.heap.size ≤ g) ∧ Gr w0 w
section
variable {w0 w w' : World} {x y z : Lg}
theorem T3.swap (h : T3 w0 w x y z) : T3 w0 w y x z := by
  obtain ⟨S, T, U, a, b, c, p, q, r, o, g⟩ := h
  exact ⟨T, S, U, b, a, c, fun g u v => p g v u, r, q, fun g h => o g (by rcases h with h | h | h; exact .inr (.inl h); exact .inl h; exact .inr (.inr h)), g⟩
theorem T3.turn (h : T3 w0 w x y z) : T3 w0 w z y x := by
  obtain ⟨S, T, U, a, b, c, p, q, r, o, g⟩ := h
  exact ⟨U, T, S, c, b, a, fun g u v => r g v u, fun g u v => q g v u, fun g u v => p g v u, fun g h => o g (by rcases h with h | h | h; exact .inr (.inr h); exact .inr (.inl h); exact .inl h), g⟩
theorem T3.gr (h : T3 w0 w x y z) (q : Gr w w') : T3 w0 w' x y z := by
  obtain ⟨S, T, U, a, b, c, p, q', r, o, g⟩ := h
  exact ⟨S, T, U, a.gr q, b.gr q, c.gr q, p, q', r, o, g.gr q⟩
theorem T3.out (h : T3 w0 w x y z) : Gr w0 w := by
  obtain ⟨S, T, U, a, b, c, p, q', r, o, g⟩ := h
  exact g
theorem t3_add (h : T3 w0 w x y z) (i e p v : Int) (hi : (Lit.int .i64 i).wf = true) (hv : addV x.k x.L i e p = v) :
    Calls Try.prog 10 #[.pointer (some ⟨x.l, 0, none⟩), .int .i64 i, .int .i64 e, .int .i64 p] w fun r w' => r = .returned (.int .i64 v) ∧ T3 w0 w' ⟨x.l, x.k, if v = 0 then x.L ++ [⟨i, e, p⟩] else x.L⟩ y z := by
  obtain ⟨S, T, U, a, b, c, ap, aq, ar, o, g⟩ := h
  refine (add_any a i e p v hi hv).mono fun r w' ⟨q, S', a', k, s⟩ => ?_
  obtain ⟨b', ap'⟩ := led_beside b ap k s
  obtain ⟨c', aq'⟩ := led_beside c aq k s
  refine ⟨q, S', T, U, a', b', c', ap', aq', ar, fun g' hg => ?_, Ke.over g k (fun g' hg => o g' (.inl hg))⟩
  rcases hg with hg | hg
  · rcases s g' hg with u | u
    · exact o g' (.inl u)
    · exact Nat.le_trans g.size u
  · exact o g' (.inr hg)
theorem t3_drop (h : T3 w0 w x y z) (i : Int) (hi : (Lit.int .i64 i).wf = true) (v : Bool) (hv : x.L.any (fun x => decide (x.id = i)) = v) :
    Calls Try.prog 11 #[.pointer (some ⟨x.l, 0, none⟩), .int .i64 i] w fun r w' => r = .returned (.bool v) ∧ T3 w0 w' ⟨x.l, x.k, remL i x.L⟩ y z := by
  obtain ⟨S, T, U, a, b, c, ap, aq, ar, o, g⟩ := h
  refine (drop_any a i hi v hv).mono fun r w' ⟨q, a', k⟩ => ?_
  obtain ⟨b', ap'⟩ := led_beside b ap k (Sv.refl S w)
  obtain ⟨c', aq'⟩ := led_beside c aq k (Sv.refl S w)
  exact ⟨q, S, T, U, a', b', c', ap', aq', ar, o, Ke.over g k (fun g' hg => o g' (.inl hg))⟩
theorem t3_can (h : T3 w0 w x y z) (e p v : Int) (hv : canV x.k x.L e p = v) : Calls Try.prog 12 #[.pointer (some ⟨x.l, 0, none⟩), .int .i64 e, .int .i64 p] w fun r w' => r = .returned (.int .i64 v) ∧ T3 w0 w' x y z := by
  have h0 := h
  obtain ⟨S, T, U, a, b, c, ap, aq, ar, o, g⟩ := h
  exact (can_any a e p v hv).mono fun r w' ⟨q, k⟩ => ⟨q, h0.gr k⟩
theorem t3_sum (h : T3 w0 w x y z) {N D : Int} (hn : (sumL x.L).num = N) (hd : ((sumL x.L).den : Int) = D) : Calls Try.prog 14 #[.pointer (some ⟨x.l, 0, none⟩)] w fun r w' => r = .returned (.agg #[.int .i64 N, .int .i64 D]) ∧ T3 w0 w' x y z := by
  have h0 := h
  obtain ⟨S, T, U, a, b, c, ap, aq, ar, o, g⟩ := h
  exact (sum_any' a ⟨hn, hd, rfl⟩).mono fun r w' ⟨q, k⟩ => ⟨q, h0.gr k⟩
theorem t3_lcm (h : T3 w0 w x y z) {M : Int} (hm : ((lcmL x.L : Nat) : Int) = M) : Calls Try.prog 16 #[.pointer (some ⟨x.l, 0, none⟩)] w fun r w' => r = .returned (.int .i64 M) ∧ T3 w0 w' x y z := by
  have h0 := h
  obtain ⟨S, T, U, a, b, c, ap, aq, ar, o, g⟩ := h
  exact (lcm_any' a ⟨rfl, rfl, hm⟩).mono fun r w' ⟨q, k⟩ => ⟨q, h0.gr k⟩
theorem t3_len (h : T3 w0 w x y z) {n : Nat} (hn : x.L.length = n) : Calls Try.prog 13 #[.pointer (some ⟨x.l, 0, none⟩)] w fun r w' => r = .returned (.int .i64 (n : Nat)) ∧ T3 w0 w' x y z := by
  have h0 := h
  obtain ⟨S, T, U, a, b, c, ap, aq, ar, o, g⟩ := h
  exact (len_any' a hn).mono fun r w' ⟨q, k⟩ => ⟨q, by rw [k]; exact h0⟩
end
theorem t3_new {w0 w : World} (g : Gr w0 w) (a b c : Int) : T3 w0 (((w.alloc (LO a)).alloc (LO b)).alloc (LO c)) ⟨w.heap.size, cut a, []⟩ ⟨w.heap.size + 1, cut b, []⟩ ⟨w.heap.size + 1 + 1, cut c, []⟩ := by
  have e1 : (w.alloc (LO a)).heap.size = w.heap.size + 1 := by simp
  have e2 : ((w.alloc (LO a)).alloc (LO b)).heap.size = w.heap.size + 1 + 1 := by simp
  have A := ((led_new a w).gr ((Ke.refl _ _).alloc (LO b))).gr ((Ke.refl _ _).alloc (LO c))
  have B := (led_new b (w.alloc (LO a))).gr ((Ke.refl _ _).alloc (LO c))
  have C := led_new c ((w.alloc (LO a)).alloc (LO b))
  rw [e1] at B
  rw [e2] at C
  have z := g.size
  refine ⟨_, _, _, A, B, C, fun g h q => ?_, fun g h q => ?_, fun g h q => ?_, fun g h => ?_, ((g.alloc _).alloc _).alloc _⟩
  · omega
  · omega
  · omega
  · omega

/-! ### sums by hand -/
def kA : List Wt := [⟨1, 1, 4093⟩, ⟨2, 1, 4091⟩]
def kB : List Wt := [⟨1, 1, 4093⟩, ⟨2, 1, 4091⟩, ⟨5, 4093, 4093⟩]
def kC : List Wt := [⟨1, 1, 4093⟩, ⟨2, 1, 4091⟩, ⟨5, 4093, 4093⟩, ⟨7, 1, 4091⟩]
def kD : List Wt := [⟨1, 1, 4093⟩, ⟨5, 4093, 4093⟩]
theorem kn1 : addV (cut 2) [] 1 1 4093 = 0 := by decide +kernel
theorem kn2 : addV (cut 2) [⟨1, 1, 4093⟩] 2 1 4091 = 0 := by decide +kernel
theorem kn3 : addV (cut 2) kA 3 1 4099 = 7 := by decide +kernel
theorem kn4 : addV (cut 2) kA 1 1 1 = 4 := by decide +kernel
theorem kn5 : addV (cut 2) kA 4 0 5 = 2 := by decide +kernel
theorem kn6 : addV (cut 2) kA 1 5 4 = 2 := by decide +kernel
theorem kn7 : addV (cut 2) kA 5 4093 4093 = 0 := by decide +kernel
theorem kn8 : addV (cut 2) kB 6 4092 4093 = 8 := by decide +kernel
theorem kn9 : addV (cut 2) kB 7 1 4091 = 0 := by decide +kernel
theorem kz1 : canV (cut 0) [] 1 1 = 0 := by decide +kernel
theorem kz2 : addV (cut 0) [] 9 1 1 = 0 := by decide +kernel
theorem kz3 : canV (cut 0) [⟨9, 1, 1⟩] 1 1000 = 8 := by decide +kernel
theorem kd1 : kC.any (fun x => decide (x.id = 2)) = true := by decide +kernel
theorem kd2 : (remL 2 kC).any (fun x => decide (x.id = 2)) = false := by decide +kernel
theorem kd3 : (remL 2 (remL 2 kC)).any (fun x => decide (x.id = 7)) = true := by decide +kernel
theorem kd4 : ((lcmL (remL 7 (remL 2 (remL 2 kC))) : Nat) : Int) = 4093 := by decide +kernel
theorem kd5 : (sumL (remL 7 (remL 2 (remL 2 kC)))).num = 4094 := by decide +kernel
theorem kd6 : ((sumL (remL 7 (remL 2 (remL 2 kC)))).den : Int) = 4093 := by decide +kernel
theorem km1 {L : List Wt} (h : Fill 64 1 64 64 L) : canV (cut 1000) L 1 2 = 8 := by
  have hc : cut 1000 = 64 := by decide
  rw [hc]
  have hs : sumL (L ++ [⟨0, 1, 2⟩]) = Rat.divInt 129 2 := by
    rw [sumL_app, h.sum (by omega)]
    decide +kernel
  have l : lcmL (L ++ [⟨0, 1, 2⟩]) ∣ 2 := lcmL_min fun x hx => by
    rcases List.mem_append.1 hx with q | q
    · rw [(h.per x q).2]; exact Nat.one_dvd _
    · simp at q; subst q; exact Nat.dvd_refl _
  have l' := Nat.le_of_dvd (by omega) l
  have n1 : (Rat.divInt 129 2).num = 129 := by decide +kernel
  have n2 : ((Rat.divInt 129 2).den : Int) = 2 := by decide +kernel
  rcases canV_cases 64 L 1 2 with ⟨a, _⟩ | ⟨_, ⟨b, q⟩ | ⟨b, ⟨c, q⟩ | ⟨c, q⟩⟩⟩
  · exact absurd ⟨by omega, by omega, by omega⟩ a
  · omega
  · exact q
  · rw [hs, n1, n2] at c; omega
theorem km2 {L : List Wt} (h : Fill 64 1 64 64 L) : (sumL L).num = 64 ∧ ((sumL L).den : Int) = 1 := by
  rw [h.sum (by omega)]
  exact ⟨by decide +kernel, by decide +kernel⟩
end Go.Proofs.Ytbimaaknjedonaa
