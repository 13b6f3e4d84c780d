/- JobsLeave walked. -/
import Derived.Test.YtlpjojegdnconaaDoorV2
namespace Go.Proofs.YtlpjojegdnconaaDoor
open Go.RowKit Go.Lib Go.Maps
open Ca (Ke Gr Sv Row Cl Ky Bs blk_other)
set_option linter.unusedVariables false
set_option maxRecDepth 100000
set_option maxHeartbeats 8000000

/-- The one task, while its job runs. -/
def oneT (E k r : Int) : Tk := ⟨1, E, k, false, false, false, true, r, 0, false, 1⟩
theorem join_one {E k : Int} (h1 : 1 ≤ E) (h2 : E ≤ k) (h3 : k ≤ 12) : joE [] 1 1 E k = 0 ∧ joS [] 1 1 E k false = [newT 1 E k false] := by
  have hc : canT E k = true := by unfold canT; simp; omega
  have e : joE [] 1 1 E k = 0 := by unfold joE; rw [hc]; simp [getT]
  exact ⟨e, by unfold joS; rw [if_pos e]; rfl⟩
theorem rel_one (E k r : Int) : relI [newT 1 E k false] = [1] ∧ relT r [newT 1 E k false] = [oneT E k r] := ⟨rfl, rfl⟩
theorem stl_one {x : Tk} {c : Int} (h : c < x.r + x.p) : stlT c [x] = [x] ∧ stlI c [x] = [] := by
  have hd : dueT c x = false := by unfold dueT; simp; omega
  constructor
  · unfold stlT lgT; simp [hd]
  · unfold stlI lgT; simp [hd]
theorem lv_one (E k r : Int) : lvB [oneT E k r] 1 = false ∧ lvE [oneT E k r] 1 = 0 ∧ lvS [oneT E k r] 1 = [leaT (oneT E k r)] := ⟨rfl, rfl, rfl⟩
theorem jo_one (E k r : Int) : joE [leaT (oneT E k r)] 1 2 1 1 = 6 ∧ joS [leaT (oneT E k r)] 1 2 1 1 false = [leaT (oneT E k r)] := ⟨rfl, rfl⟩
theorem re_one (E k r c : Int) : relI [leaT (oneT E k r)] = [] ∧ relT c [leaT (oneT E k r)] = [leaT (oneT E k r)] := ⟨rfl, rfl⟩
theorem end_one (E k r : Int) : stlI (r + k) [leaT (oneT E k r)] = [1] ∧ stlT (r + k) [leaT (oneT E k r)] = [] := by
  have hd : dueT (r + k) (leaT (oneT E k r)) = true := by unfold dueT leaT oneT; simp
  have hl : lgT (r + k) (leaT (oneT E k r)) = true := by unfold lgT; rw [hd]; rfl
  constructor
  · unfold stlI; rw [List.filter_cons_of_pos hl]; rfl
  · unfold stlT; rw [List.filter_cons_of_neg (by rw [hl]; simp)]; rfl
theorem sv_not {w w' : World} {F F' : Nat → Prop} (s : Sv F F' w w') {b : Nat} (hn : ¬ F b) (hb : b < w.heap.size) : ¬ F' b := fun q => by
  rcases s.ft b q with e | e
  · exact hn e
  · omega

theorem leave_walk (a b x y : Nat) (ha : a < 256) (hb : b < 256) (hx : x < 256) (hy : y < 256) (w : World) (hT : Tab w) :
    Calls Tryd.prog 7 #[.int .u8 a, .int .u8 b, .agg #[.int .u8 x, .int .u8 y]] w fun e w' => e = .returned (.bool true) ∧ Gr w w' := by
  have gB : Gr w (w.alloc (.cells #[.int .u8 x, .int .u8 y] 60)) := (Ke.refl _ w).alloc _
  have hTB : Tab (w.alloc (.cells #[.int .u8 x, .int .u8 y] 60)) := fun j hj => Ca.gcell gB (hT j hj)
  have GB := Lib.hid gB
  have AW := Lib.hid (awake_true _ hTB)
  clear gB
  have b0 : (w.alloc (.cells #[.int .u8 x, .int .u8 y] 60)).cell? ⟨w.heap.size, 0, none⟩ = some (.int .u8 x) := by simp [go_sem]
  have b1 : (w.alloc (.cells #[.int .u8 x, .int .u8 y] 60)).cell? ⟨w.heap.size, 1, none⟩ = some (.int .u8 y) := by simp [go_sem]
  obtain ⟨kb, hkb⟩ : ∃ kb, kb = b % 12 := ⟨_, rfl⟩
  have k1 : ((b : Nat) : Int) % 12 = (kb : Int) := by omega
  have k2 : ((b : Nat) : Int).tmod 12 = (kb : Int) := by rw [Int.tmod_eq_emod_of_nonneg (by omega)]; exact k1
  obtain ⟨k, hk⟩ : ∃ k, k = kb + 1 := ⟨_, rfl⟩
  have k3 : 1 + (kb : Int) = (k : Int) := by omega
  have hk12 : 1 ≤ k ∧ k ≤ 12 := by omega
  obtain ⟨ea, hea⟩ : ∃ ea, ea = a % k := ⟨_, rfl⟩
  have hea2 : ea < k := by rw [hea]; exact Nat.mod_lt _ (by omega)
  have a1 : ((a : Nat) : Int) % (k : Int) = (ea : Int) := by rw [hea]; exact (Int.natCast_emod a k).symm
  have a2 : ((a : Nat) : Int).tmod (k : Int) = (ea : Int) := by rw [Int.tmod_eq_emod_of_nonneg (by omega)]; exact a1
  obtain ⟨E, hE⟩ : ∃ E, E = ea + 1 := ⟨_, rfl⟩
  have a3 : 1 + (ea : Int) = (E : Int) := by omega
  have hE12 : 1 ≤ E ∧ E ≤ k := by omega
  obtain ⟨ya, hya⟩ : ∃ ya, ya = y % k := ⟨_, rfl⟩
  have hya2 : ya < k := by rw [hya]; exact Nat.mod_lt _ (by omega)
  have y1 : ((y : Nat) : Int) % (k : Int) = (ya : Int) := by rw [hya]; exact (Int.natCast_emod y k).symm
  have y2 : ((y : Nat) : Int).tmod (k : Int) = (ya : Int) := by rw [Int.tmod_eq_emod_of_nonneg (by omega)]; exact y1
  obtain ⟨at_, hat⟩ : ∃ at_, at_ = x + ya := ⟨_, rfl⟩
  have y3 : (x : Int) + (ya : Int) = (at_ : Int) := by omega
  obtain ⟨en, hen⟩ : ∃ en, en = x + k := ⟨_, rfl⟩
  have y4 : (x : Int) + (k : Int) = (en : Int) := by omega
  have hate : at_ < en ∧ x ≤ at_ ∧ en ≤ 300 := by omega
  have kz : ¬ (k : Int) = 0 := by omega
  have JO := Lib.hid (join_one (E := E) (k := k) (by omega) (by omega) (by omega))
  have HK := Lib.hid hk12
  have HY := Lib.hid hat
  have HN := Lib.hid hen
  clear hkb hk hea hE hya hat hen hea2 hya2 hk12
  go_enter Tryd.func7, Tryd.ntmps7
  go_wp2_with fail
  generalize w.alloc (.cells #[.int .u8 x, .int .u8 y] 60) = W0 at *
  generalize w.heap.size = B at *
  refine AW.out.mono ?_
  rintro e wa ⟨rfl, ga⟩
  have b0' := Ca.gcell ga b0
  have b1' := Ca.gcell ga b1
  have C := Lib.hid (jw_new hTB ga 1 1 (by omega) (by simp))
  clear ga AW hTB b0 b1
  go_wp2_with fail
  refine C.out.mono ?_
  rintro e w1 ⟨p, F1, rfl, h1, g1, nf1⟩
  have nB : ¬ F1 B := fun q => by have := nf1 B q; have := Ca.lt_of_cell b0'; simp only at this; omega
  have c0 := Ca.gcell g1 b0'
  have c1 := Ca.gcell g1 b1'
  have C := Lib.hid (jw_join h1 1 E k false (by decide))
  rw [JO.out.1, JO.out.2] at C
  have NB := Lib.hid nB
  clear h1 g1 nf1 b0' b1' nB JO
  go_wp2_with fail
  refine C.out.mono ?_
  rintro e w2 ⟨rfl, F2, h2, s2⟩
  have d0 := sv_cell s2 c0 NB.out
  have d1 := sv_cell s2 c1 NB.out
  have nB2 := sv_not s2 NB.out (Ca.lt_of_cell c0)
  have C := Lib.hid (jw_release h2 (t := (x : Int)) (by omega) (by omega) (by omega))
  rw [(rel_one E k x).1, (rel_one E k x).2] at C
  have NB := Lib.hid nB2
  clear h2 s2 c0 c1 nB2 k1 k2 k3 a1 a2 a3 hE12
  go_wp2_with fail
  refine C.out.mono ?_
  rintro e w3 ⟨u3, rfl, F3, r3, h3', s3, nf3⟩
  have h3 : JW W0 w3 p 1 1 F3 [oneT E k x] := h3'
  have e1 := sv_cell s3 d1 NB.out
  have H3 := Lib.hid h3
  clear C r3 h3' h3 s3 nf3 d0 d1 NB
  go_upto_region 10 with fail
  clear y1 y2 y3 kz e1
  go_wp2_with fail
  go_loopg [11] (at_ + 1) (fun kx s11 wr => ∃ c : Nat, s11 = .int .i64 c ∧ x + 1 ≤ c ∧ c ≤ at_ + 1 ∧ at_ + 1 - c ≤ kx ∧ Aside (∃ F, JW W0 wr p 1 1 F [oneT E k x]))
  case atStart => exact ⟨x + 1, by go_num, by omega, by omega, by omega, _, H3.out⟩
  case round =>
    obtain ⟨c, rfl, hc1, hc2, hkx, HI⟩ := hrel
    by_cases hlt : c ≤ at_
    · have hltz : (c : Int) ≤ (at_ : Int) := by omega
      obtain ⟨F, h⟩ := HI.out
      have C := Lib.hid (jw_settle h c)
      rw [(stl_one (x := oneT E k x) (c := c) (by show (c : Int) < x + k; have := HN.out; omega)).1, (stl_one (x := oneT E k x) (c := c) (by show (c : Int) < x + k; have := HN.out; omega)).2] at C
      clear h
      go_wp2_with fail
      refine C.out.mono ?_
      rintro e w4 ⟨u4, rfl, F4, r4, h4, s4, nf4⟩
      have H4 := Lib.hid h4
      clear C r4 h4 s4 nf4
      go_wp2_with fail
      go_roundg (at_ + 1 - (c + 1))
      case measure => omega
      case rel => exact ⟨c + 1, by go_num, by omega, by omega, Nat.le_refl _, _, H4.out⟩
    · have hltz : ¬ (c : Int) ≤ (at_ : Int) := by omega
      obtain ⟨F, h⟩ := HI.out
      have C := Lib.hid (jw_leave h 1 (by decide))
      rw [(lv_one E k x).1, (lv_one E k x).2.1, (lv_one E k x).2.2] at C
      clear h hc1 hc2 hkx hlt H3
      go_wp2_with fail
      refine C.out.mono ?_
      rintro e w4 ⟨rfl, F4, h4, s4⟩
      have H4 := Lib.hid h4
      clear C h4 s4
      go_wp2_with fail
      go_loopg [14] en (fun kx s14 wr => ∃ c : Nat, s14 = .int .i64 c ∧ at_ + 1 ≤ c ∧ c ≤ en ∧ en - c ≤ kx ∧ Aside (∃ F, JW W0 wr p 1 1 F [leaT (oneT E k x)]))
      case atStart => exact ⟨at_ + 1, by go_num, by omega, by omega, by omega, _, H4.out⟩
      case round =>
        obtain ⟨c, rfl, hc1, hc2, hkx, HI⟩ := hrel
        by_cases hlt : c < en
        · have hltz : (c : Int) < (en : Int) := by omega
          obtain ⟨F, h⟩ := HI.out
          have C := Lib.hid (jw_settle h c)
          rw [(stl_one (x := leaT (oneT E k x)) (c := c) (by show (c : Int) < x + k; have := HN.out; omega)).1, (stl_one (x := leaT (oneT E k x)) (c := c) (by show (c : Int) < x + k; have := HN.out; omega)).2] at C
          clear h
          go_wp2_with fail
          refine C.out.mono ?_
          rintro e w5 ⟨u5, rfl, F5, r5, h5, s5, nf5⟩
          obtain ⟨x5, c5, rfl⟩ := rowI_form r5
          have C := Lib.hid (jw_join h5 2 1 1 false (by decide))
          rw [(jo_one E k x).1, (jo_one E k x).2] at C
          clear r5 h5 s5 nf5
          simp only [List.length_nil] at *
          go_wp2_with fail
          refine C.out.mono ?_
          rintro e w6 ⟨rfl, F6, h6, s6⟩
          have C := Lib.hid (jw_release h6 (t := (c : Int)) (by omega) (by omega) (by omega))
          rw [(re_one E k x c).1, (re_one E k x c).2] at C
          clear h6 s6
          go_wp2_with fail
          refine C.out.mono ?_
          rintro e w7 ⟨u7, rfl, F7, r7, h7', s7, nf7⟩
          obtain ⟨x7, c7, rfl⟩ := rowI_form r7
          have h7 : JW W0 w7 p 1 1 F7 [leaT (oneT E k x)] := h7'
          have H7 := Lib.hid h7
          clear C r7 h7 h7' s7 nf7
          simp only [List.length_nil] at *
          go_wp2_with fail
          go_roundg (en - (c + 1))
          case measure => omega
          case rel => exact ⟨c + 1, by go_num, by omega, by omega, Nat.le_refl _, _, H7.out⟩
        · have hltz : ¬ (c : Int) < (en : Int) := by omega
          obtain ⟨F, h⟩ := HI.out
          have C := Lib.hid (jw_settle h (en : Int))
          rw [show (en : Int) = (x : Int) + (k : Int) by have := HN.out; omega, (end_one E k x).1, (end_one E k x).2, show (x : Int) + (k : Int) = (en : Int) by have := HN.out; omega] at C
          clear h hc1 hc2 hkx hlt H4
          go_wp2_with fail
          refine C.out.mono ?_
          rintro e w5 ⟨u5, rfl, F5, r5, h5, s5, nf5⟩
          obtain ⟨x5, c5, rfl⟩ := rowI_form r5
          have C := Lib.hid (jw_task h5 1 (by decide))
          unfold TkQ at C
          rw [show getT ([] : List Tk) 1 = none from rfl] at C
          simp only [Option.getD_none, Option.isSome_none, aggT, zeroT] at C
          have H5 := Lib.hid h5
          have R5 := Lib.hid r5
          clear r5 h5 s5 nf5
          simp only [List.length_nil, List.length_cons, Nat.zero_add] at *
          go_wp2_with fail
          refine C.out.mono ?_
          rintro e w6 ⟨rfl, g6⟩
          have G6 := Lib.hid g6
          clear g6 C
          go_upto_region 25 with fail
          obtain ⟨W, hW⟩ : ∃ W, W = w6.alloc (.cells #[.int .i64 0, .int .i64 0, .int .i64 0, .bool false, .bool false, .bool false, .bool false, .int .i64 0, .int .i64 0, .bool false, .int .i64 0] 49) := ⟨_, rfl⟩
          have gW : Gr w5 W := by rw [hW]; exact G6.out.alloc _
          rw [← hW]
          have h7 := H5.out.gro gW
          have r7 := rowI_gr R5.out gW
          have lit := rowI_lit W [1] #[.int .i64 1] rfl (by decide)
          have IN := Lib.hid (ints_any (rowI_gr r7 ((Ke.refl _ W).alloc _)) lit)
          rw [show decide (([1] : List Int) = [1]) = true from rfl] at IN
          have H7 := Lib.hid h7
          clear hW gW r7 h7 lit R5 H5 G6
          simp only [List.length_nil, List.length_cons, Nat.zero_add] at *
          go_wp2_with fail
          refine IN.out.mono ?_
          rintro e w8 ⟨rfl, g8⟩
          have C := Lib.hid (jw_join (H7.out.gro (((Ke.refl _ W).alloc (.cells #[.int .i64 1] 3)).trans g8)) 2 1 1 false (by decide))
          rw [show joE [] 1 2 1 1 = 0 from by decide] at C
          clear IN g8
          go_wp2_with fail
          refine C.out.mono ?_
          rintro e w9 ⟨rfl, F9, h9, s9⟩
          have H9 := Lib.hid h9
          clear C h9 s9
          go_wp2_with fail
          go_ret
          exact ⟨rfl, GB.out.trans H9.out.gr⟩
end Go.Proofs.YtlpjojegdnconaaDoor
