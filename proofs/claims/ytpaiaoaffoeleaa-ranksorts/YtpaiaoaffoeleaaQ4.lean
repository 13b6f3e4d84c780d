/- rank.Sort: the ranks sorted by Less, alike ones as they stood, in new memory. -/
import Derived.Test.YtpaiaoaffoeleaaY6
import Derived.Test.YtpaiaoaffoeleaaG4
import Derived.Test.YtpaiaoaffoeleaaO4
import Derived.Test.YtpaiaoaffoeleaaShelf
import Derived.Laws.CopyRow
import Derived.Laws.MakeOwn
namespace Go.Proofs.Ytpaiaoaffoeleaa
open Go.Shelf Go.RowKit Go.Lib Go.Sort
set_option linter.unusedVariables false

/-- A rank's four cells. -/
def encQ (x : Rk) : List Value := [.int .i64 x.d, .int .i64 x.b, .int .i64 x.g, .int .i64 x.i]
/-- .. of one that bears its place. -/
def encR (x : Rk × Nat) : List Value := encQ x.1
def cfT (x y : Rk × Nat) : Int := cfR x.1 y.1

theorem ltOf_cfT : ltOf cfT = ltB lessB := by
  funext x y
  show decide (cfR x.1 y.1 < 0) = lessB x.1 y.1
  unfold cfR
  cases lessB x.1 y.1 <;> cases lessB y.1 x.1 <;> simp

theorem cmpLays (blk off size : Nat) (w : World) : CmpLays Try.prog 22 #[] encR 4 cfT blk off size w := fun _ _ _ _ x y => compare_any x.1 y.1 _
theorem encR_len (x : Rk × Nat) : (encR x).length = 4 := rfl
theorem encR_one (x : Rk × Nat) : ∀ v ∈ encR x, v.oneCell' = true := by
  intro v hv
  simp [encR, encQ] at hv
  rcases hv with rfl | rfl | rfl | rfl <;> rfl
theorem e22 : ∀ args w, (callFunc 22 args).run Try.prog w = .ok (.enter 22 args) w := enters_of Try.func22 (by kernel_rfl) rfl
theorem e26 : ∀ args w, (callFunc 26 args).run Try.prog w = .ok (.enter 26 args) w := enters_of Try.func26 (by kernel_rfl) rfl
theorem e27 : ∀ args w, (callFunc 27 args).run Try.prog w = .ok (.enter 27 args) w := enters_of Try.func27 (by kernel_rfl) rfl

theorem ins_try (blk off cap a b : Nat) (d0 d : Array (Rk × Nat)) (w0 w : World) (R : RowK encR 4 w0 blk off d0) (hs : d.size = d0.size) (S : SWK encR 4 w0 blk off d w) (hab : a ≤ b) (hb : b ≤ d.size) (hsz : d0.size ≤ 1000000) :
    Calls Try.prog 27 #[.slice (some ⟨blk, off, none⟩) d.size cap, .int .i64 a, .int .i64 b, .func (.func 22) #[] #[]] w fun e w' => e = .returned (.tuple #[]) ∧ SWK encR 4 w0 blk off (insertionSort (ltOf cfT) d a b) w' := by
  have c := AnyQ.insertionSortCmpFunc Try.ins 4 Try.isAgg26 Try.sizeOf26 encR encR_len encR_one cfT 22 #[] blk off cap a b d w e22 (cmpLays _ _ _ _) (S.holds R.hblk R.hH hs) (S.lt R.hblk) hab hb (by omega)
  refine Calls.mono c fun e w' ⟨he, n, os, hw⟩ => ⟨he, ?_⟩
  rw [hw]
  exact S.on R.hblk _ _ _ (insertionSort_holds (lt := ltOf cfT) (by rw [ltOf_cfT]; exact ⟨fun x => swo_less.irrefl _, fun x y z => swo_less.trans _ _ _, fun x y z => swo_less.ntrans _ _ _⟩) d a b hab hb).1.1

theorem stable_try (blk off cap : Nat) (d : Array (Rk × Nat)) (w : World) (hH : HoldsK encR 4 w blk off d) (hblk : blk < w.heap.size) (hsz : d.size ≤ 1000000) (ht : ∀ t, t < d.size → d[t]!.2 = t) :
    Calls Try.prog 26 #[.slice (some ⟨blk, off, none⟩) d.size cap, .int .i64 d.size, .func (.func 22) #[] #[]] w fun e w' => e = .returned (.tuple #[]) ∧ StabTo lessB encR 4 w blk off d w' :=
  have R : RowK encR 4 w blk off d := ⟨encR_len, encR_one, hH, hblk⟩
  stable_any try_bear cfT lessB swo_less ltOf_cfT 22 #[] blk off cap d w e22 (cmpLays _ _ _ _) R hsz ht e27 fun a b d' w' hs S hab hb => ins_try blk off cap a b d d' w w' R hs S hab hb hsz

set_option maxHeartbeats 1000000 in
theorem sortStable_try (blk off cap : Nat) (d : Array (Rk × Nat)) (w : World) (hH : HoldsK encR 4 w blk off d) (hblk : blk < w.heap.size) (hsz : d.size ≤ 1000000) (ht : ∀ t, t < d.size → d[t]!.2 = t) :
    Calls Try.prog 21 #[.slice (some ⟨blk, off, none⟩) d.size cap, .func (.func 22) #[] #[]] w fun e w' => e = .returned (.tuple #[]) ∧ StabTo lessB encR 4 w blk off d w' := by
  have c := stable_try blk off cap d w hH hblk hsz ht
  have C := Lib.hid c
  clear c hH ht
  go_enter Try.func21, Try.ntmps21
  go_wp2_with fail
  refine C.out.mono ?_
  rintro e w2 ⟨rfl, s2⟩
  have S2 : Aside (StabTo lessB encR 4 w blk off d w2) := s2
  clear s2 C
  go_wp2
  go_end0
  exact ⟨rfl, S2.out⟩

/-! ### copy, at elements of four cells -/
theorem run_copy_four {P : Program} (w : World) (dT sT ty elem : TypeId) (g dLen dCap : Nat) (a : Addr) (sLen sCap : Nat) (cur : Array Value) (t : TypeId) (cs : List Value)
    (hu : P.underlying dT = some (.slice elem)) (hs : (P.info? elem).map (·.size) = some 4)
    (hg : w.heap[g]? = some (.cells cur t (0, 0))) (hn : cs.length = Nat.min sLen dLen * 4)
    (hsrc : ∀ j v, cs[j]? = some v → w.cell? (a.add j) = some v) (hfit : cs.length ≤ cur.size) (h1 : ∀ v ∈ cs, v.oneCell' = true) :
    (Builtin.copy_ #[dT, sT] ty #[.slice (some ⟨g, 0, none⟩) dLen dCap, .slice (some a) sLen sCap]).run P w =
      .ok (goInt (Nat.min sLen dLen)) (w.setRow g (cs ++ cur.toList.drop cs.length).toArray) := by
  have hl := run_loadCells_list (P := P) w a cs hsrc
  have hst := run_storeCells_at P g 0 t cs 0 cur w hg (by simpa using hfit) h1
  cases hq : P.info? elem with
  | none => simp [hq] at hs
  | some i =>
    have hi : i.size = 4 := by simpa [hq] using hs
    simp [Builtin.copy_, run_underlying hu, Builtin.lenOf, Builtin.firstCells, sizeOf, typeInfo, hq, hi, ← hn, hl] at hst ⊢
    rw [hst]
    rfl

/-! ### the ranks with their places -/
def tag (q : Array Rk) : Array (Rk × Nat) := q.mapIdx fun i x => (x, i)
theorem tag_size (q : Array Rk) : (tag q).size = q.size := by simp [tag]
theorem tag_at (q : Array Rk) (t : Nat) (h : t < q.size) : (tag q)[t]! = (q[t]!, t) := by
  rw [getElem!_pos (tag q) t (by rw [tag_size]; exact h), getElem!_pos q t h]; simp [tag]
theorem flat_tag (d : Array (Rk × Nat)) : flatK encR 4 d = flatK encQ 4 (d.map (·.1)) := by
  refine ext_get! (by simp) fun t ht => ?_
  have h : t < d.size * 4 := by simpa using ht
  rw [get_flatK _ _ _ t h, get_flatK _ _ _ t (by simpa using h)]
  have hd : t / 4 < d.size := by omega
  rw [getElem!_pos d (t / 4) hd, getElem!_pos (d.map (·.1)) (t / 4) (by simpa using hd)]
  simp [encR]
theorem tag_fst (q : Array Rk) : (tag q).map (·.1) = q := by
  refine Array.ext (by simp [tag]) fun i h1 h2 => ?_
  simp [tag]
theorem holds_tag {w : World} {blk off : Nat} {d : Array (Rk × Nat)} : HoldsK encR 4 w blk off d ↔ HoldsK encQ 4 w blk off (d.map (·.1)) := by
  unfold HoldsK; rw [flat_tag]

/-- r is q sorted, alike ones as they stood. -/
def Sorted4 (q r : Array Rk) : Prop := ∃ d, PermIn 0 q.size (tag q) d ∧ Ris (TT lessB) 0 q.size d ∧ r = d.map (·.1)

theorem gr_swk {w W w2 : World} {B off : Nat} {d : Array (Rk × Nat)} (S : SWK encR 4 W B off d w2) (g : Gr w W) (hB : w.heap.size ≤ B) : Gr w w2 := by
  obtain ⟨n, os, rfl⟩ := S
  obtain ⟨q, os1, rfl⟩ := g
  obtain ⟨os', h1, h2⟩ := putRow_grow_new id (Sort.ahead (w.drewN q) n) os1 B off (flatK encR 4 d) (by exact hB)
  refine ⟨q + n, os' ++ os, ?_⟩
  unfold sortWorldK putRowK
  rw [ahead_grow, h2, grow_grow]
  show grow ((w.drewN q).drewN n) (os' ++ os) = _
  rw [World.drewN_drewN]

/-- The sorted ranks in a block of their own. -/
def SortedTo (w : World) (q : Array Rk) (w' : World) : Prop := ∃ r, Sorted4 q r ∧ r.size = q.size ∧ HoldsK encQ 4 w' w.heap.size 0 r ∧ Gr w w'

theorem stab_sorted {w W w2 : World} {q : Array Rk} (g : Gr w W) (hH : HoldsK encR 4 W w.heap.size 0 (tag q)) (hb : w.heap.size < W.heap.size) (S : StabTo lessB encR 4 W w.heap.size 0 (tag q) w2) : SortedTo w q w2 := by
  obtain ⟨d, p, r, s⟩ := S
  rw [tag_size] at p r
  have hs : d.size = (tag q).size := p.1
  refine ⟨d.map (·.1), ⟨d, p, r, rfl⟩, by simp [hs, tag_size], ?_, gr_swk s g (Nat.le_refl _)⟩
  rw [← holds_tag]
  exact s.holds hb hH hs

theorem info26 : ∃ i, Try.prog.info? 26 = some i ∧ i.size = 4 ∧ i.bytes = 32 ∧ i.zero = some (.agg #[.int .i64 0, .int .i64 0, .int .i64 0, .int .i64 0]) := by
  have h1 : (Try.prog.info? 26).map (·.size) = some 4 := by kernel_rfl
  have h2 : (Try.prog.info? 26).map (·.bytes) = some 32 := by kernel_rfl
  have h3 : (Try.prog.info? 26).map (·.zero) = some (some (.agg #[.int .i64 0, .int .i64 0, .int .i64 0, .int .i64 0])) := by kernel_rfl
  cases h : Try.prog.info? 26 with
  | none => rw [h] at h1; cases h1
  | some i =>
    rw [h] at h1 h2 h3
    exact ⟨i, rfl, by simpa using h1, by simpa using h2, by simpa using h3⟩

theorem make26 (n : Nat) (hn : n ≤ 1000000) (w : World) : ∃ X : Array Value, X.size = n * 4 ∧ (Instr.makeSlice 34 (.int .i64 (n : Int)) (.int .i64 (n : Int))).run Try.prog w = .ok (.slice (some ⟨w.heap.size, 0, none⟩) n n) (w.alloc (.cells X 26)) := by
  obtain ⟨i, hi, h1, h2, h3⟩ := info26
  refine ⟨madeCells (Value.cells (.agg #[.int .i64 0, .int .i64 0, .int .i64 0, .int .i64 0])) (n * 4), size_madeCells _ _, ?_⟩
  have h := run_make w 34 26 i _ Try.underlying34 hi h3 .i64 .i64 n n (by omega) (by omega) (by rw [h2]; omega) (by omega)
  rw [h1] at h
  simpa using h

/-- All cells of a new block laid anew. -/
theorem setRow_new (w : World) (X Y : Array Value) (t : TypeId) : (w.alloc (.cells X t)).setRow w.heap.size Y = w.alloc (.cells Y t) := by
  rw [alloc_eq_grow, alloc_eq_grow]
  unfold World.setRow grow
  simp only
  rw [modify_append_right _ _ _ _ (Nat.le_refl _), Nat.sub_self]
  rfl

theorem holds_new (w : World) (q : Array Rk) : HoldsK encR 4 (w.alloc (.cells (flatK encQ 4 q) 26)) w.heap.size 0 (tag q) := by
  rw [holds_tag, tag_fst]
  intro j hj
  rw [getElem!_pos _ j hj]
  have h0 : (w.alloc (.cells (flatK encQ 4 q) 26)).heap[w.heap.size]? = some (.cells (flatK encQ 4 q) 26 (0, 0)) := (MapKept.heap_alloc w _).1
  refine ⟨?_, by unfold World.frozen?; rw [h0]; simp⟩
  simp only [World.cell?, h0, Nat.zero_add]
  simp

theorem encQ_one (x : Rk) : ∀ v ∈ encQ x, v.oneCell' = true := by
  intro v hv
  simp [encQ] at hv
  rcases hv with rfl | rfl | rfl | rfl <;> rfl
theorem flat_one (q : Array Rk) : ∀ v ∈ (flatK encQ 4 q).toList, v.oneCell' = true := by
  intro v hv
  simp only [Array.mem_toList_iff] at hv
  obtain ⟨t, ht, rfl⟩ := Array.mem_iff_getElem.1 hv
  have h : t < q.size * 4 := by simpa using ht
  have e := get_flatK encQ 4 q t h
  rw [getElem!_pos _ t ht] at e
  rw [e]
  refine encQ_one q[t / 4]! _ ?_
  have : t % 4 < (encQ q[t / 4]!).length := by show t % 4 < 4; omega
  rw [getElem!_pos (encQ q[t / 4]!) (t % 4) this]
  exact List.getElem_mem _

theorem copy26 (w : World) (sb so cap : Nat) (q : Array Rk) (X : Array Value) (hX : X.size = q.size * 4) (hH : HoldsK encQ 4 w sb so q) (hsb : sb < w.heap.size) (ty : TypeId) :
    (Builtin.copy_ #[34, 34] ty #[.slice (some ⟨w.heap.size, 0, none⟩) q.size q.size, .slice (some ⟨sb, so, none⟩) q.size cap]).run Try.prog (w.alloc (.cells X 26)) = .ok (goInt q.size) (w.alloc (.cells (flatK encQ 4 q) 26)) := by
  have hs : (Try.prog.info? 26).map (·.size) = some 4 := by kernel_rfl
  have h0 : (w.alloc (.cells X 26)).heap[w.heap.size]? = some (.cells X 26 (0, 0)) := (MapKept.heap_alloc w _).1
  have hm : Nat.min q.size q.size = q.size := Nat.min_self _
  have hl : (flatK encQ 4 q).toList.length = q.size * 4 := by simp
  have h := run_copy_four (P := Try.prog) (w.alloc (.cells X 26)) 34 34 ty 26 w.heap.size q.size q.size ⟨sb, so, none⟩ q.size cap X 26 (flatK encQ 4 q).toList Try.underlying34 hs h0 (by rw [hl, hm])
    (fun j v hj => by
      have hj' : j < (flatK encQ 4 q).size := by
        have := (List.getElem?_eq_some_iff.1 hj).1
        simpa using this
      have e : (⟨sb, so, none⟩ : Addr).add j = ⟨sb, so + j, none⟩ := by unfold Addr.add; split <;> simp_all
      have hc := (hH j hj').1
      rw [getElem!_pos _ j hj'] at hc
      have hv : v = (flatK encQ 4 q)[j] := by
        have := (List.getElem?_eq_some_iff.1 hj).2
        simpa using this.symm
      rw [e, gcell4 ((Gr.refl w).alloc _) hc, hv]
      rfl)
    (by rw [hl, hX]; exact Nat.le_refl _) (flat_one q)
  rw [h, hm]
  have hd : (flatK encQ 4 q).toList ++ X.toList.drop (flatK encQ 4 q).toList.length = (flatK encQ 4 q).toList := by
    rw [List.drop_eq_nil_of_le (by rw [hl]; simp [hX]), List.append_nil]
  rw [hd, setRow_new]

set_option maxHeartbeats 1000000 in
theorem sort_some (sb so cap : Nat) (q : Array Rk) (w : World) (hH : HoldsK encQ 4 w sb so q) (hsb : sb < w.heap.size) (hsz : q.size ≤ 1000000) :
    Calls Try.prog 14 #[.slice (some ⟨sb, so, none⟩) q.size cap] w fun e w' => e = .returned (.slice (some ⟨w.heap.size, 0, none⟩) q.size q.size) ∧ SortedTo w q w' := by
  obtain ⟨X, hX, hmk⟩ := make26 q.size hsz w
  have hcp := copy26 w sb so cap q X hX hH hsb
  have hw := holds_new w q
  have c := sortStable_try w.heap.size 0 q.size (tag q) _ hw (by simp) (by rw [tag_size]; exact hsz) (fun t h => by rw [tag_size] at h; rw [tag_at q t h])
  rw [tag_size] at c
  have C := Lib.hid c
  have F : Aside (∀ w2, StabTo lessB encR 4 (w.alloc (.cells (flatK encQ 4 q) 26)) w.heap.size 0 (tag q) w2 → SortedTo w q w2) := (fun w2 h => stab_sorted ((Gr.refl w).alloc _) hw (by simp) h : ∀ w2, StabTo lessB encR 4 (w.alloc (.cells (flatK encQ 4 q) 26)) w.heap.size 0 (tag q) w2 → SortedTo w q w2)
  clear c hw hX hH
  go_enter Try.func14, Try.ntmps14
  go_wp2_with fail
  refine C.out.mono ?_
  rintro e w2 ⟨rfl, s2⟩
  have S2 : Aside (SortedTo w q w2) := F.out w2 s2
  clear s2 C F hmk hcp
  go_wp2
  go_ret
  exact ⟨rfl, S2.out⟩

set_option maxHeartbeats 1000000 in
theorem sort_nil (w : World) :
    Calls Try.prog 14 #[.slice none 0 0] w fun e w' => e = .returned (.slice (some ⟨w.heap.size, 0, none⟩) 0 0) ∧ SortedTo w #[] w' := by
  obtain ⟨X, hX, hmk⟩ := make26 0 (by omega) w
  obtain rfl : X = #[] := Array.size_eq_zero_iff.1 (by simpa using hX)
  replace hmk : (Instr.makeSlice 34 (.int .i64 0) (.int .i64 0)).run Try.prog w = .ok (.slice (some ⟨w.heap.size, 0, none⟩) 0 0) (w.alloc (.cells #[] 26)) := hmk
  have hcp : ∀ ty, (Builtin.copy_ #[34, 34] ty #[.slice (some ⟨w.heap.size, 0, none⟩) 0 0, .slice none 0 0]).run Try.prog (w.alloc (.cells #[] 26)) = .ok (goInt 0) (w.alloc (.cells #[] 26)) := fun ty => run_copy_nil _ _ _ _ _ _ _ _ _ Try.underlying34 (by kernel_rfl)
  have hw := holds_new w #[]
  have e0 : flatK encQ 4 (#[] : Array Rk) = #[] := by simp [flatK]
  have e1 : tag #[] = #[] := rfl
  have c := sortStable_try w.heap.size 0 0 (tag #[]) _ hw (by simp) (by rw [tag_size]; simp) (fun t h => by rw [tag_size] at h; simp at h)
  rw [tag_size] at c
  have F := fun w2 h => stab_sorted (w := w) (q := #[]) (w2 := w2) ((Gr.refl w).alloc _) hw (by simp) h
  rw [e0] at c F
  replace c : Calls Try.prog 21 #[.slice (some ⟨w.heap.size, 0, none⟩) 0 0, .func (.func 22) #[] #[]] (w.alloc (.cells #[] 26)) fun e w' => e = .returned (.tuple #[]) ∧ StabTo lessB encR 4 (w.alloc (.cells #[] 26)) w.heap.size 0 (tag #[]) w' := c
  have C := Lib.hid c
  have FF := Lib.hid F
  clear c hw hX e0 e1 F
  go_enter Try.func14, Try.ntmps14
  go_wp2_with fail
  refine C.out.mono ?_
  rintro e w2 ⟨rfl, s2⟩
  have S2 : Aside (SortedTo w #[] w2) := FF.out w2 s2
  clear s2 C FF hmk hcp
  go_wp2
  go_ret
  exact ⟨rfl, S2.out⟩

end Go.Proofs.Ytpaiaoaffoeleaa
