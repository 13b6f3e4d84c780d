/- The calendar as a law uses it: a list in order; contracts of New, Put, Next, Len, pop, Due. -/
import Derived.Test.YtlpjojegdnconaaDoorJ8
import Derived.Test.YtlpjojegdnconaaDoorK8
namespace Go.Proofs.YtlpjojegdnconaaDoor.Ca
open Go.RowKit Go.Lib Go.Maps
set_option linter.unusedVariables false
set_option maxRecDepth 100000

/-- The calendar at p holds L; at most c were put; its blocks are F. -/
structure Cl (w : World) (base : Bs) (p c : Nat) (F : Nat → Prop) (L : List Ky) : Prop where
  ex : ∃ M, Cal w base p c F L.length M ∧ Rep M L
  bs : base ≤ w.heap.size
section
variable {w w' : World} {base : Bs} {p c : Nat} {F : Nat → Prop} {L : List Ky}
theorem Cl.lt (h : Cl w base p c F L) {k : Nat} (hk : F k) : base ≤ k ∧ k < w.heap.size := by
  obtain ⟨M, cal, _⟩ := h.ex
  exact cal.lt hk
theorem Cl.self (h : Cl w base p c F L) : F p := by
  obtain ⟨M, cal, _⟩ := h.ex
  exact cal.self
theorem Cl.ke {G : Nat → Prop} (h : Cl w base p c F L) (k : Ke G w w') (hG : ∀ j, F j → ¬ G j) : Cl w' base p c F L := by
  obtain ⟨M, cal, r⟩ := h.ex
  exact ⟨⟨M, cal.ke k hG, r⟩, Nat.le_trans h.bs k.size⟩
theorem Cl.gr (h : Cl w base p c F L) (k : Gr w w') : Cl w' base p c F L := h.ke k (fun _ _ q => q)
theorem Cl.srt (h : Cl w base p c F L) : L.Pairwise le2 := by
  obtain ⟨M, cal, r⟩ := h.ex
  exact r.srt

theorem cl_start (w : World) (base p : Nat) (hb : base ≤ p) (hp : p < w.heap.size) (c0 : w.cell? ⟨p, 68, none⟩ = some (.map none)) (c1 : w.cell? ⟨p, 69, none⟩ = some (.slice none 0 0)) (c2 : w.cell? ⟨p, 70, none⟩ = some (.int .i64 0)) (c3 : w.cell? ⟨p, 71, none⟩ = some (.slice none 0 0)) (c4 : w.cell? ⟨p, 72, none⟩ = some (.pointer none)) (fz : ∀ o, w.frozen? ⟨p, o, none⟩ = false) :
    Cl w ⟨base, fun o => w.cell? ⟨p, o, none⟩⟩ p 0 (fun k => k = p) [] :=
  ⟨⟨_, cal_start w base p hb c0 c1 c2 c3 c4 fz, Rep.start⟩, by show base ≤ w.heap.size; omega⟩

/-- What a call leaves of a calendar. -/
def Lv (w : World) (base : Bs) (p c : Nat) (F : Nat → Prop) (L : List Ky) (w' : World) : Prop := ∃ F', Cl w' base p c F' L ∧ Sv F F' w w'
theorem cl_put (h : Cl w base p c F L) (hc : c + 1 ≤ 65535) (t i : Int) (hi : (Lit.int .i64 i).wf = true) :
    Calls Tryd.prog 53 #[.pointer (some ⟨p, 68, none⟩), .int .i64 t, .int .i64 i] w fun e w' => e = .returned (.tuple #[]) ∧ Lv w base p (c + 1) F (ins (t, i) L) w' := by
  obtain ⟨M, cal, r⟩ := h.ex
  refine (cal_put cal h.bs hc t i hi).mono ?_
  rintro e w' ⟨rfl, q⟩
  obtain ⟨F', m, hm, c', sv⟩ := q.ex
  refine ⟨rfl, F', ⟨⟨_, ?_, r.put hm t i (ins_srt (t, i) r.srt) (ins_perm (t, i) L)⟩, Nat.le_trans h.bs sv.ke.size⟩, sv⟩
  rw [ins_len]
  exact c'
/-- What Next answers. -/
def nx (L : List Ky) : Int := match L with | [] => 0 | x :: _ => x.1
def nb (L : List Ky) : Bool := match L with | [] => false | _ :: _ => true
theorem cl_next (h : Cl w base p c F L) : Calls Tryd.prog 56 #[.pointer (some ⟨p, 68, none⟩)] w fun e w' => e = .returned (.tuple #[.int .i64 (nx L), .bool (nb L)]) ∧ Gr w w' := by
  obtain ⟨M, cal, r⟩ := h.ex
  cases L with
  | nil => exact cal_next_none cal
  | cons x L =>
    obtain ⟨s, k, hf⟩ := cal.first (by simp)
    rw [show nx (x :: L) = k.d by rw [(r.first hf).1]; rfl]
    exact cal_next_some cal s k hf
theorem cl_pop {x : Ky} (h : Cl w base p c F (x :: L)) : Calls Tryd.prog 57 #[.pointer (some ⟨p, 68, none⟩)] w fun e w' => e = .returned (.int .i64 x.2) ∧ Lv w base p c F L w' := by
  obtain ⟨M, cal, r⟩ := h.ex
  obtain ⟨s, k, hf⟩ := cal.first (by simp)
  obtain ⟨e, r'⟩ := r.first hf
  rw [show x.2 = k.i by rw [e]]
  refine (cal_pop (n := L.length) cal s k hf).mono ?_
  rintro e w' ⟨rfl, q⟩
  obtain ⟨F', c', sv⟩ := q.ex
  exact ⟨rfl, F', ⟨⟨_, c', r'⟩, Nat.le_trans h.bs sv.ke.size⟩, sv⟩
end

/-! ### Due -/
/-- The ids of a list. -/
def idc (D : List Ky) (j : Nat) : Value := .int .i64 (D.getD j (0, 0)).2
theorem info3 : ∃ i, Tryd.prog.info? 3 = some i ∧ i.size = 1 ∧ i.bytes = 8 ∧ i.zero = some (.int .i64 0) := by
  have h1 : (Tryd.prog.info? 3).map (·.size) = some 1 := by kernel_rfl
  have h2 : (Tryd.prog.info? 3).map (·.bytes) = some 8 := by kernel_rfl
  have h3 : (Tryd.prog.info? 3).map (·.zero) = some (some (.int .i64 0)) := by kernel_rfl
  cases h : Tryd.prog.info? 3 with
  | none => rw [h] at h1; cases h1
  | some i =>
    rw [h] at h1 h2 h3
    exact ⟨i, rfl, by simpa using h1, by simpa using h2, by simpa using h3⟩
/-- One id more. -/
theorem ids_more (w : World) (base : Nat) (v : Value) (D : List Ky) (h : Row w base 3 1 v D.length (idc D)) (hb : base ≤ w.heap.size) (hl : D.length ≤ 1000000) (x : Ky) (B : Nat) (hB : B = w.heap.size) :
    ∃ v' w1, (Builtin.append_ #[42, 42] 42 #[v, .slice (some ⟨B, 0, none⟩) 1 1]).run Tryd.prog (w.alloc (.cells #[.int .i64 x.2] 3)) = .ok v' w1 ∧ (w.alloc (.cells #[.int .i64 x.2] 3)).grownBy w1 v.ownBlock ∧ Row w1 base 3 1 v' (D ++ [x]).length (idc (D ++ [x])) ∧ (v'.ownBlock = v.ownBlock ∨ v'.ownBlock = some (w.heap.size + 1)) := by
  subst hB
  obtain ⟨i, hi, h1, h2, h3⟩ := info3
  have h' : Row (w.alloc (.cells #[.int .i64 x.2] 3)) base 3 1 v D.length (idc D) := h.keep (fun g hg => Below.heap_alloc w _ g (h.lt hg).2)
  obtain ⟨v', w1, hr, ho, hg, ha⟩ := append_own_at (P := Tryd.prog) (w.alloc (.cells #[.int .i64 x.2] 3)) base 42 42 3 i _ 1 8 Tryd.underlying42 hi h3 h1 h2 rfl (by omega) v D.length _ h' ⟨w.heap.size, 0, none⟩ 1 1 [.int .i64 x.2] (by omega) rfl (fun j u hj => by
    rcases j with _ | j
    · cases hj; simp [go_sem, Addr.add]
    · simp at hj) (by simp [Value.oneCell']) (by unfold maxLen; omega) (by omega) (by simp; omega)
  refine ⟨v', w1, hr, hg, ?_, by simpa using ha⟩
  unfold Row
  rw [show (List.range ((D ++ [x]).length * 1)).map (idc (D ++ [x])) = (List.range (D.length * 1)).map (idc D) ++ [.int .i64 x.2] from ?_]
  · rw [List.length_append]; exact ho
  · rw [List.length_append, List.length_cons, List.length_nil, Nat.mul_one, Nat.mul_one, Nat.zero_add, List.range_succ, List.map_append]
    congr 1
    · refine List.map_congr_left (fun j hj => ?_)
      have := List.mem_range.1 hj
      unfold idc
      rw [List.getD_eq_getElem?_getD, List.getD_eq_getElem?_getD, List.getElem?_append_left (by omega)]
    · simp [idc]
/-- What Due leaves, and on its way. -/
structure DuI (w : World) (base : Bs) (p c : Nat) (F : Nat → Prop) (L D R : List Ky) (v : Value) (w' : World) : Prop where
  ex : ∃ F', Cl w' base p c F' R ∧ Sv F F' w w' ∧ ∀ g, v.ownBlock = some g → ¬ F' g
  sp : L = D ++ R
  row : Row w' w.heap.size 3 1 v D.length (idc D)
theorem du_step {w wr w1 : World} {base : Bs} {p c : Nat} {F : Nat → Prop} {L D R : List Ky} {x : Ky} {v : Value} (h : DuI w base p c F L D (x :: R) v wr) (hl : L.length ≤ 1000000) (F1 F2 : Nat → Prop) (h1 : Cl wr base p c F1 (x :: R)) (s1 : Sv F F1 w wr) (n1 : ∀ g, v.ownBlock = some g → ¬ F1 g) (h2 : Cl w1 base p c F2 R) (s2 : Sv F1 F2 wr w1) (B : Nat) (hB : B = w1.heap.size) :
    ∃ v' w2, (Builtin.append_ #[42, 42] 42 #[v, .slice (some ⟨B, 0, none⟩) 1 1]).run Tryd.prog (w1.alloc (.cells #[.int .i64 x.2] 3)) = .ok v' w2 ∧ DuI w base p c F L (D ++ [x]) R v' w2 := by
  have hlen : D.length ≤ 1000000 := by have := congrArg List.length h.sp; simp at this; omega
  have r1 : Row w1 w.heap.size 3 1 v D.length (idc D) := h.row.keep (fun g hg => s2.ke.block g (h.row.lt hg).2 (n1 g hg))
  have hs : w.heap.size ≤ wr.heap.size := s1.ke.size
  have hs2 : wr.heap.size ≤ w1.heap.size := s2.ke.size
  obtain ⟨v', w2, hr, hg, hrow, ha⟩ := ids_more w1 w.heap.size v D r1 (Nat.le_trans hs hs2) hlen x B hB
  refine ⟨v', w2, hr, ?_⟩
  have nv : ∀ g, v.ownBlock = some g → ¬ F2 g := fun g hg q => by
    rcases s2.ft g q with e | e
    · exact n1 g hg e
    · have := (h.row.lt hg).2; omega
  have k2 : Ke (fun k => v.ownBlock = some k) w1 w2 := ((Ke.refl _ w1).alloc _).grown hg (fun k e => .inl e)
  have c2 := h2.ke k2 (fun j hj q => nv j q hj)
  have s3 : Sv F F2 w w2 := by
    have s12 := s1.trans s2
    refine ⟨⟨k2.os.trans s12.ke.os, k2.tape.trans s12.ke.tape, k2.output.trans s12.ke.output, Nat.le_trans s12.ke.size k2.size, fun k hk hn => ?_⟩, s12.ft⟩
    refine (k2.block k (by omega) (fun q => ?_)).trans (s12.ke.block k hk hn)
    have := (h.row.lt q).1
    omega
  refine ⟨⟨F2, c2, s3, fun g hg q => ?_⟩, by rw [h.sp]; simp, hrow⟩
  rcases ha with e | e
  · rw [e] at hg; exact nv g hg q
  · rw [e] at hg
    have := (h2.lt q).2
    cases hg
    omega

/-- What is due. -/
def due (t : Int) (L : List Ky) : List Ky := L.takeWhile (fun x => decide (x.1 ≤ t))
def late (t : Int) (L : List Ky) : List Ky := L.dropWhile (fun x => decide (x.1 ≤ t))
def DuP (w : World) (base : Bs) (p c : Nat) (F : Nat → Prop) (L : List Ky) (t : Int) (e : Ending) (w' : World) : Prop := ∃ v, e = .returned v ∧ DuI w base p c F L (due t L) (late t L) v w'

set_option maxHeartbeats 1000000 in
theorem cl_due {w : World} {base : Bs} {p c : Nat} {F : Nat → Prop} {L : List Ky} (h : Cl w base p c F L) (hl : L.length ≤ 1000000) (t : Int) :
    Calls Tryd.prog 41 #[.pointer (some ⟨p, 68, none⟩), .int .i64 t] w fun e w' => DuP w base p c F L t e w' := by
  have N0 := Lib.hid (cl_next h)
  have HH := Lib.hid h
  clear h
  go_enter Tryd.func41, Tryd.ntmps41
  go_wp2_with fail
  refine N0.out.mono ?_
  rintro e w1 ⟨rfl, g1⟩
  have I0 : Hid (DuI w base p c F L [] L (.slice none 0 0) w1) := ⟨⟨F, HH.out.gr g1, Sv.of_gr g1, fun g hg => by simp [Value.ownBlock] at hg⟩, rfl, World.ownsRow_nil _ _ _ _⟩
  clear N0 g1
  go_wp2_with fail
  go_loopg [5, 6, 7] L.length (fun kx s5 s6 s7 wr => ∃ D R, Aside (DuI w base p c F L D R s5 wr ∧ ∀ x, x ∈ D → x.1 ≤ t) ∧ R.length ≤ kx ∧ s6 = .int .i64 (nx R) ∧ s7 = .bool (nb R))
  case atStart => exact ⟨[], L, ⟨I0.out, fun x hx => by cases hx⟩, Nat.le_refl _, rfl, rfl⟩
  case round =>
    obtain ⟨D, R, hI, hk, rfl, rfl⟩ := hrel
    have done : Hid ((∀ x r, R = x :: r → ¬ x.1 ≤ t) → D = due t L ∧ R = late t L) := fun q => by
      have := take_split (p := fun x => decide (x.1 ≤ t)) (D := D) (R := R) (fun x hx => by simpa using hI.out.2 x hx) (fun x r e => by simpa using q x r e)
      rw [← hI.out.1.sp] at this
      exact ⟨this.1.symm, this.2.symm⟩
    cases R with
    | nil =>
      rw [show nx ([] : List Ky) = 0 from rfl, show nb ([] : List Ky) = false from rfl]
      go_wp2
      refine bodyPost_ret (results_tmp rfl _ _ _) rfl ?_
      obtain ⟨e1, e2⟩ := done.out (fun x r e => by cases e)
      exact ⟨_, rfl, by rw [← e1, ← e2]; exact hI.out.1⟩
    | cons x R =>
      rw [show nx (x :: R) = x.1 from rfl, show nb (x :: R) = true from rfl]
      by_cases hx : x.1 ≤ t
      · have hxd : decide (x.1 ≤ t) = true := by simp [hx]
        obtain ⟨F1, h1, s1, n1⟩ := hI.out.1.ex
        have PP := Lib.hid (cl_pop h1)
        have H1 := Lib.hid h1
        have S1 := Lib.hid s1
        have N1 := Lib.hid n1
        have HX := Lib.hid hx
        clear h1 s1 n1 done hx
        simp only [List.length_cons] at hk
        obtain ⟨xt, xi⟩ := x
        simp only at hxd PP
        go_wp2_with fail
        refine PP.out.mono ?_
        rintro e w2 ⟨rfl, F2, c2, s2⟩
        obtain ⟨v', w3, hr, dn⟩ := du_step hI.out.1 hl F1 F2 H1.out S1.out N1.out c2 s2 w2.heap.size rfl
        have HR := Lib.hid hr
        have DN := Lib.hid dn
        obtain ⟨F3, c3, _, _⟩ := dn.ex
        have N3 := Lib.hid (cl_next c3)
        clear PP c2 s2 hr dn c3
        go_wp2_with (at_builtin; refine Lib.wpList_append_run _ rfl _ _ 42 42 rfl _ _ rfl rfl _ _ HR.out ?_)
        refine N3.out.mono ?_
        rintro e w4 ⟨rfl, g4⟩
        have G4 := Lib.hid g4
        clear N3 g4
        go_wp2_with fail
        go_roundg R.length
        case measure => omega
        case rel =>
          refine ⟨D ++ [(xt, xi)], R, ⟨?_, fun y hy => ?_⟩, Nat.le_refl _, rfl, rfl⟩
          · obtain ⟨F3, c3, s3, n3⟩ := DN.out.ex
            exact ⟨⟨F3, c3.gr G4.out, s3.trans (Sv.of_gr G4.out), n3⟩, DN.out.sp, DN.out.row.keep (fun g hg => G4.out.block g (DN.out.row.lt hg).2 (fun q => q))⟩
          · rcases List.mem_append.1 hy with e | e
            · exact hI.out.2 y e
            · rw [List.mem_singleton.1 e]; exact HX.out
      · have hxd : decide (x.1 ≤ t) = false := by simp [hx]
        have HX := Lib.hid hx
        clear hx
        obtain ⟨xt, xi⟩ := x
        simp only at hxd
        go_wp2
        refine bodyPost_ret (results_tmp rfl _ _ _) rfl ?_
        obtain ⟨e1, e2⟩ := done.out (fun y r e => by cases e; exact HX.out)
        exact ⟨_, rfl, by rw [← e1, ← e2]; exact hI.out.1⟩
end Go.Proofs.YtlpjojegdnconaaDoor.Ca
