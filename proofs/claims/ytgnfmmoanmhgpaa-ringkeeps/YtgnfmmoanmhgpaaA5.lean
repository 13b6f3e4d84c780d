/- Contract of Since. -/
import Derived.Test.YtgnfmmoanmhgpaaA4
import Derived.Lib.AppendZeros
namespace Go.Proofs.Ytgnfmmoanmhgpaa
open Go.RowKit Go.Lib
set_option linter.unusedVariables false

/-- The cells of a row of entries. -/
def fc (F : Nat → En) (j : Nat) : Value := cellE (F (j / 10)) (j % 10)
theorem fc_one (F : Nat → En) (j : Nat) : (fc F j).oneCell' = true := by
  unfold fc
  have h : j % 10 < 10 := Nat.mod_lt _ (by omega)
  generalize j % 10 = o at h
  rcases (show o = 0 ∨ o = 1 ∨ o = 2 ∨ o = 3 ∨ o = 4 ∨ o = 5 ∨ o = 6 ∨ o = 7 ∨ o = 8 ∨ o = 9 by omega) with rfl | rfl | rfl | rfl | rfl | rfl | rfl | rfl | rfl | rfl <;> rfl
theorem fc_at (F : Nat → En) (i o : Nat) (ho : o < 10) : fc F (i * 10 + o) = cellE (F i) o := by
  unfold fc
  rw [show (i * 10 + o) / 10 = i by omega, show (i * 10 + o) % 10 = o by omega]
def SRow (w : World) (base : Nat) (v : Value) (n : Nat) (F : Nat → En) : Prop := w.ownsRow base 33 10 v n ((List.range (n * 10)).map (fc F))
abbrev enO (x : En) : Obj := .cells #[.int .i64 x.q, .int .i64 x.c, .int .i64 x.p.e, .int .i64 x.p.c, .int .i64 x.p.i, .int .i64 x.p.fn, .int .i64 x.p.fd, .int .i64 x.p.tn, .int .i64 x.p.td, .bool x.p.s] 33
theorem en_row (x : En) (w : World) : (w.alloc (enO x)).rowIs w.heap.size 33 10 (cellE x) := World.rowIs_alloc w _ 33 (cellE x) (fun i hi => by
  simp only [List.size_toArray, List.length_cons, List.length_nil] at hi
  rcases (show i = 0 ∨ i = 1 ∨ i = 2 ∨ i = 3 ∨ i = 4 ∨ i = 5 ∨ i = 6 ∨ i = 7 ∨ i = 8 ∨ i = 9 by omega) with rfl | rfl | rfl | rfl | rfl | rfl | rfl | rfl | rfl | rfl <;> rfl)

/-- What Since has so far. -/
structure SiS (w wr : World) (F : Nat → En) (i : Nat) (v : Value) : Prop where
  row : SRow wr w.heap.size v i F
  gr : Gr w wr
theorem sis_app {w wr : World} {F : Nat → En} {i : Nat} {v : Value} (h : SiS w wr F i v) (hi : i ≤ 5000) {W : World} (g : Gr wr W) {x : En} (hx : F i = x) : ∃ g' c' w1, (∀ ty, (Builtin.append_ #[36, 36] ty #[v, .slice (some ⟨W.heap.size, 0, none⟩) 1 1]).run Try.prog (W.alloc (enO x)) = .ok (.slice (some ⟨g', 0, none⟩) (i + 1) c') w1) ∧ SiS w w1 F (i + 1) (.slice (some ⟨g', 0, none⟩) (i + 1) c') := by
  subst hx
  obtain ⟨nf, hi', h1, h2, h3⟩ := info33
  have gW : Gr wr (W.alloc (enO (F i))) := g.alloc _
  have row : (W.alloc (enO (F i))).ownsRow w.heap.size 33 10 v i ((List.range (i * 10)).map (fc F)) := by
    refine ⟨h.row.1, ?_⟩
    rcases h.row.2 with hn | ⟨q, cap, cur, rfl, hb, hgg, rest⟩
    · exact .inl hn
    · exact .inr ⟨q, cap, cur, rfl, hb, (gW.block q (Array.getElem?_eq_some_iff.1 hgg).1 (fun x => x)).trans hgg, rest⟩
  have R := en_row (F i) W
  obtain ⟨v', w1, hr, ho, hg, ha⟩ := run_append_own (P := Try.prog) (W.alloc (enO (F i))) w.heap.size 36 36 33 nf _ 10 80 Try.underlying36 hi' h3 h1 h2 rfl (by omega) v i _ row ⟨W.heap.size, 0, none⟩ 1 1 ((List.range 10).map (cellE (F i))) (by simp) (fun j u hj => by
    obtain ⟨hlt, hv⟩ := List.getElem?_eq_some_iff.1 hj
    simp only [List.length_map, List.length_range] at hlt
    rw [List.getElem_map, List.getElem_range] at hv
    rw [← hv]
    have e : (⟨W.heap.size, 0, none⟩ : Addr).add j = ⟨W.heap.size, j, none⟩ := by unfold Addr.add; split <;> simp_all
    rw [e]
    exact R.cell hlt) (fun u hu => by
    obtain ⟨j, hj, rfl⟩ := List.mem_map.1 hu
    have := fc_one F (i * 10 + j)
    rwa [fc_at F i j (List.mem_range.1 hj)] at this) (by unfold maxLen; omega) (by omega) (Nat.le_trans h.gr.size gW.size)
  have ho2 : SRow w1 w.heap.size v' (i + 1) F := by
    unfold SRow
    rw [show (i + 1) * 10 = i * 10 + 10 by omega, List.range_add, List.map_append, List.map_map]
    have e : (List.range 10).map (fc F ∘ fun x => i * 10 + x) = (List.range 10).map (cellE (F i)) := List.map_congr_left (fun j hj => fc_at F i j (List.mem_range.1 hj))
    rw [e]
    exact ho
  have gr2 : Gr w w1 := (h.gr.trans gW).grown hg (fun k e => .inr (by
    rcases h.row.2 with ⟨rfl, _⟩ | ⟨q, cap, cur, rfl, hb, _⟩
    · simp [Value.ownBlock] at e
    · simp only [Value.ownBlock, Option.some.injEq] at e
      omega))
  rcases ho2.2 with ⟨_, q⟩ | ⟨q, cap, cur, rfl, hb, hgg, h5⟩
  · omega
  · exact ⟨q, cap, w1, fun ty => hr, ho2, gr2⟩

/-- What Since leaves: nil or a row of its own. -/
def SinceQ (w : World) (n : Nat) (F : Nat → En) (e : Ending) (w' : World) : Prop := ∃ a c, e = .returned (.slice a n c) ∧ Gr w w' ∧ n ≤ c ∧ (0 < n → ∃ b, a = some ⟨b, 0, none⟩ ∧ b < w'.heap.size ∧ ∀ i, i < n → ∀ o, o < 10 → w'.cell? ⟨b, i * 10 + o, none⟩ = some (cellE (F i) o))

theorem since_of {w wr : World} {F : Nat → En} {n q c : Nat} (h : SiS w wr F n (.slice (some ⟨q, 0, none⟩) n c)) : SinceQ w n F (.returned (.slice (some ⟨q, 0, none⟩) n c)) wr := by
  have hl := World.ownsRow.lt h.row q rfl
  refine ⟨_, _, rfl, h.gr, ?_, fun hn => ⟨q, rfl, hl.2, fun i hi o ho => ?_⟩⟩
  · rcases h.row.2 with ⟨e, _⟩ | ⟨q', cap, cur, e, hb, hgg, h5, _⟩
    · cases e
    · cases e
      exact h5
  · rw [World.ownsRow.cellAt h.row (i * 10 + o) (by omega)]
    simp only [List.getElem?_map, List.getElem?_range (show i * 10 + o < n * 10 by omega), Option.map_some]
    rw [fc_at F i o ho]

section
variable {w : World} {p g k m : Nat} {E : Nat → En}
set_option maxRecDepth 100000 in
/-- Since, none. -/
theorem since_none (h : Rg w p g k m E) (hm : m ≤ 1000000) (a : Int) (F : Nat → En) (ha : (m : Int) ≤ max a ((m - k : Nat) : Int)) : Calls Try.prog 11 #[.pointer (some ⟨p, 0, none⟩), .int .i64 a] w (SinceQ w 0 F) := by
  have CF := Lib.hid (first_any h hm)
  have CN := Lib.hid (next_any (h.gr (Ke.refl _ _).drew))
  have FIN : Hid (SinceQ w 0 F (.returned (.slice none 0 0)) w.drew) := Lib.hid ⟨_, _, rfl, (Ke.refl _ _).drew, Nat.le_refl _, fun h => by omega⟩
  obtain ⟨t, ht⟩ : ∃ t, max a ((m - k : Nat) : Int) = t := ⟨_, rfl⟩
  have mx : (if a < ((m - k : Nat) : Int) then ((m - k : Nat) : Int) else a) = t := by split <;> omega
  have d1 : decide (t ≥ (m : Int)) = true := decide_eq_true (by omega)
  have d2 : decide ((m : Int) ≤ t) = true := decide_eq_true (by omega)
  generalize (m - k : Nat) = f at *
  clear h ha ht
  go_enter Try.func11, Try.ntmps11
  go_wp2_with fail
  refine CF.out.mono ?_
  rintro e w4 ⟨rfl, hw⟩
  obtain rfl := hw
  go_wp2_with fail
  refine CN.out.mono ?_
  rintro e w4 ⟨rfl, hw⟩
  obtain rfl := hw
  go_wp2_with fail
  go_ret
  exact FIN.out
theorem sis_start {w W : World} (g : Gr w W) (F : Nat → En) (X : Array Value) (n : Nat) (hX : X.size = n * 10) (hn : n ≤ 1000000) : SiS w (W.alloc (.cells X 33)) F 0 (.slice (some ⟨W.heap.size, 0, none⟩) 0 n) :=
  ⟨⟨by simp, .inr ⟨W.heap.size, n, X, rfl, g.size, heap_alloc_new W _, by omega, by unfold maxLen; omega, by simp [hX], by simp⟩⟩, g.alloc _⟩

set_option maxRecDepth 100000 in
set_option maxHeartbeats 4000000 in
/-- Since, some. -/
theorem since_some (h : Rg w p g k m E) (hm : m ≤ 1000000) (a : Int) (t n : Nat) (ht : (t : Int) = max a ((m - k : Nat) : Int)) (hn : m = t + n) (h0 : 0 < n) : Calls Try.prog 11 #[.pointer (some ⟨p, 0, none⟩), .int .i64 a] w (SinceQ w n (fun i => E (t + i))) := by
  have k6 := h.k6
  have hn5 : n ≤ 4096 := by omega
  have HR := Lib.hid h
  have htk : Hid (m ≤ t + k) := Lib.hid (by omega)
  have CF := Lib.hid (first_any h hm)
  have CN := Lib.hid (next_any (h.gr (Ke.refl _ _).drew))
  have mx : (if a < ((m - k : Nat) : Int) then ((m - k : Nat) : Int) else a) = (t : Int) := by split <;> omega
  have d1 : decide ((t : Int) ≥ (m : Int)) = false := decide_eq_false (by omega)
  have d2 : decide (m ≤ t) = false := decide_eq_false (by omega)
  obtain ⟨X, hX, MK⟩ := make33 0 n (by omega) (by omega) w.drew
  have MK2 : (Instr.makeSlice 36 (.int .i64 0) (.int .i64 (n : Int))).run Try.prog w.drew = .ok (.slice (some ⟨w.heap.size, 0, none⟩) 0 n) (w.drew.alloc (.cells X 33)) := MK
  have ST : Hid (SiS w (w.alloc (.cells X 33)).drew (fun i => E (t + i)) 0 (.slice (some ⟨w.heap.size, 0, none⟩) 0 n)) := Lib.hid (sis_start (W := w.drew) (Ke.refl _ _).drew _ X n hX (by omega))
  have hnz : (m : Int) - (t : Int) = (n : Int) := by omega
  have wn : wrap64 (n : Int) = n := by unfold wrap64; omega
  have HN := Lib.hid hn
  generalize (m - k : Nat) = f at *
  clear h ht hn MK hX k6
  go_enter Try.func11, Try.ntmps11
  go_wp2_with fail
  refine CF.out.mono ?_
  rintro e w4 ⟨rfl, hw⟩
  obtain rfl := hw
  go_wp2_with fail
  refine CN.out.mono ?_
  rintro e w4 ⟨rfl, hw⟩
  obtain rfl := hw
  go_wp2_with fail
  generalize (w.alloc (.cells X 33)).drew = W at *
  generalize w.heap.size = B at *
  go_loopg [5, 7] n (fun kx s5 s7 wr => ∃ s i g' c' : Nat, s5 = .int .i64 (s : Int) ∧ s7 = .slice (some ⟨g', 0, none⟩) i c' ∧ s ≤ m ∧ m - s ≤ kx ∧ Aside (s = t + i ∧ SiS w wr (fun i => E (t + i)) i (.slice (some ⟨g', 0, none⟩) i c')))
  case atStart => exact ⟨t, 0, B, n, rfl, rfl, by omega, by have := HN.out; omega, rfl, ST.out⟩
  case round =>
    clear ST CF CN MK2
    obtain ⟨s, i, g', c', rfl, rfl, hs, hsx, D⟩ := hrel
    by_cases hlt : s < m
    · have e1 : decide ((s : Int) < (m : Int)) = true := by simp; omega
      have e2 : decide (s < m) = true := by simp; omega
      obtain ⟨hst, SI⟩ := D.out
      have hi : i ≤ 5000 := by have := HN.out; omega
      have R2 := HR.out.gr SI.gr
      have hk1 : m ≤ s + k := by have := htk.out; omega
      have CP := Lib.hid (place_any R2 (by omega) s (by omega))
      have r0 := R2.cell hlt hk1 (o := 0) (by omega)
      have r1 := R2.cell hlt hk1 (o := 1) (by omega)
      have r2 := R2.cell hlt hk1 (o := 2) (by omega)
      have r3 := R2.cell hlt hk1 (o := 3) (by omega)
      have r4 := R2.cell hlt hk1 (o := 4) (by omega)
      have r5 := R2.cell hlt hk1 (o := 5) (by omega)
      have r6 := R2.cell hlt hk1 (o := 6) (by omega)
      have r7 := R2.cell hlt hk1 (o := 7) (by omega)
      have r8 := R2.cell hlt hk1 (o := 8) (by omega)
      have r9 := R2.cell hlt hk1 (o := 9) (by omega)
      simp only [cellE, Nat.add_zero] at r0 r1 r2 r3 r4 r5 r6 r7 r8 r9
      have hx : (fun i => E (t + i)) i = E s := by rw [hst]
      obtain ⟨g2, c2, w2, hr, S2⟩ := sis_app SI hi (W := wr.drew) (Ke.refl _ wr).drew hx
      have HS := Lib.hid hst
      have HA : Hid (∀ ty, (Builtin.append_ #[36, 36] ty #[.slice (some ⟨g', 0, none⟩) i c', .slice (some ⟨wr.drew.heap.size, 0, none⟩) 1 1]).run Try.prog (wr.drew.alloc (enO (E s))) = .ok (.slice (some ⟨g2, 0, none⟩) (i + 1) c2) w2) := Lib.hid hr
      have S3 := Lib.hid S2
      generalize E s = x at *
      generalize s % k * 10 = r at *
      clear D SI R2 hr S2 hst hx
      go_wp2_with fail
      refine CP.out.mono ?_
      rintro e w4 ⟨rfl, hw⟩
      obtain rfl := hw
      go_wp2_with (at_builtin; refine Lib.wpList_append_run _ rfl _ _ 36 36 rfl _ _ rfl rfl _ _ (HA.out _) ?_)
      go_roundg (m - (s + 1))
      case measure => omega
      case rel => exact ⟨s + 1, i + 1, g2, c2, by go_num, rfl, by omega, by omega, by have := HS.out; omega, S3.out⟩
    · obtain rfl : m = s := by omega
      have e1 : decide ((m : Int) < (m : Int)) = false := by simp
      obtain ⟨hst, SI⟩ := D.out
      obtain rfl : n = i := by have := HN.out; omega
      have FIN := Lib.hid (since_of SI)
      clear D SI hst
      go_wp2_with fail
      go_ret
      exact FIN.out
end
end Go.Proofs.Ytgnfmmoanmhgpaa
