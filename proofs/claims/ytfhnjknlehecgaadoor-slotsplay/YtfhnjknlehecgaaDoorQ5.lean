/- The law SlotsPlay walked. -/
import Derived.Test.YtfhnjknlehecgaaDoorP5
import Derived.Deep.RegionHeld3
import Derived.Shelf.SlSortCmp.QuietGrown
import Derived.BigQuiet
namespace Go.Proofs.YtfhnjknlehecgaaDoor
open Go.RowKit Go.Lib Go.Maps Go.Sort
set_option linter.unusedVariables false

/-- The deeds that came in. -/
structure Deeds (w : World) (b off : Nat) (q : List (Int × Int)) : Prop where
  lt : b < w.heap.size
  c0 : ∀ i (h : i < q.length), w.cell? ⟨b, off + i * 2, none⟩ = some (.int .i64 q[i].1)
  c1 : ∀ i (h : i < q.length), w.cell? ⟨b, off + i * 2 + 1, none⟩ = some (.int .i64 q[i].2)
  wf : ∀ i (h : i < q.length), (Lit.int .i64 q[i].2).wf = true

/-- A deed in a box of its own. -/
structure DBox (w : World) (p g bm a o bd : Nat) (d x : Int) : Prop where
  lt : bd < w.heap.size
  ne : bd ≠ p ∧ bd ≠ g ∧ bd ≠ bm ∧ bd ≠ a ∧ bd ≠ o
  c0 : w.cell? ⟨bd, 0, none⟩ = some (.int .i64 d)
  c1 : w.cell? ⟨bd, 1, none⟩ = some (.int .i64 x)

theorem dbox_new {w0 wr : World} {p g bm k a o : Nat} {A : Nat → Option Int} (h : Play w0 wr p g bm k A a o) (d x : Int) : DBox (wr.alloc (.cells #[.int .i64 d, .int .i64 x] 29)) p g bm a o wr.heap.size d x := by
  obtain ⟨D, r⟩ := h.st.rep
  have h1 := r.pl; have h2 := r.gl; have h3 := r.ml; have h4 := h.al; have h5 := h.ol
  have e := (MapKept.heap_alloc wr (.cells #[.int .i64 d, .int .i64 x] 29)).1
  exact ⟨by simp, by omega, by simp only [World.cell?, e]; simp, by simp only [World.cell?, e]; simp⟩
theorem DBox.keep {w w' : World} {p g bm a o bd : Nat} {d x : Int} (h : DBox w p g bm a o bd d x) (k : Kept3 p g bm w w') : DBox w' p g bm a o bd d x := by
  have e := k.block bd h.lt h.ne.1 h.ne.2.1 h.ne.2.2.1
  exact ⟨Nat.lt_of_lt_of_le h.lt k.size, h.ne, (World.cell?_of_block (a := ⟨bd, 0, none⟩) e).trans h.c0, (World.cell?_of_block (a := ⟨bd, 1, none⟩) e).trans h.c1⟩

theorem DBox.drew {w : World} {p g bm a o bd : Nat} {d x : Int} (h : DBox w p g bm a o bd d x) : Aside (DBox w.drew p g bm a o bd d x) := (⟨h.lt, h.ne, h.c0, h.c1⟩ : DBox w.drew p g bm a o bd d x)
theorem Play.drew {w0 w : World} {p g bm k a o : Nat} {A : Nat → Option Int} (h : Play w0 w p g bm k A a o) : Aside (Play w0 w.drew p g bm k A a o) := h.grow (Below.refl _ _).drew

theorem Play.rows {w0 w w' : World} {p g bm k a o : Nat} {A : Nat → Option Int} (h : Play w0 w p g bm k A a o) (kk : Kept3 p g bm w w') :
    (∀ s, s < k → ∃ v, w'.cell? ⟨a, s, none⟩ = some (.int .i64 v)) ∧ (∀ s, s < k → w'.cell? ⟨o, s, none⟩ = some (.bool (A s).isSome)) ∧ (∀ s, w'.frozen? ⟨a, s, none⟩ = false) ∧ (∀ s, w'.frozen? ⟨o, s, none⟩ = false) := by
  have ea := kk.block a h.al h.ap.1 h.ap.2.1 h.ap.2.2
  have eo := kk.block o h.ol h.op.1 h.op.2.1 h.op.2.2
  exact ⟨fun t ht => by obtain ⟨v, h1, _⟩ := h.ids t ht; exact ⟨v, (World.cell?_of_block (a := ⟨a, t, none⟩) ea).trans h1⟩, fun t ht => (World.cell?_of_block (a := ⟨o, t, none⟩) eo).trans (h.on t ht), fun t => (World.frozen?_of_block (a := ⟨a, t, none⟩) ea).trans (h.az t), fun t => (World.frozen?_of_block (a := ⟨o, t, none⟩) eo).trans (h.oz t)⟩

theorem cell5_drew {W : World} {a : Addr} {v : Value} (h : W.cell? a = some v) : W.drew.cell? a = some v := h
theorem cell5_set {W : World} {b o c i : Nat} {v : Value} (h : W.cell? ⟨b, o, none⟩ = some v) (hb : b ≠ c) (u : Value) : (W.setCell ⟨c, i, none⟩ u).cell? ⟨b, o, none⟩ = some v := by
  rw [World.cell?_of_block (Below.heap_setCell W ⟨c, i, none⟩ u b hb)]; exact h

/-- The rows, and the ids that were handed out. -/
structure Lay (w0 w : World) (p g bm k : Nat) (A : Nat → Option Int) (a o gi : Nat) (l : List Int) : Prop where
  play : Play w0 w p g bm k A a o
  cell : ∀ i (h : i < l.length), w.cell? ⟨gi, i, none⟩ = some (.int .i64 l[i])
theorem Lay.of {w0 w w' : World} {p g bm k a o gi cap : Nat} {A : Nat → Option Int} {l : List Int} (h : Play w0 w p g bm k A a o) (i : Ids w0 w w' p g bm k A gi cap l) : Lay w0 w' p g bm k A a o gi l := ⟨h.keep i.keep i.st, i.cell⟩
theorem below_grow (w : World) (n : Nat) (os : Array Obj) : Below w.heap.size w (grow (w.drewN n) os) := ⟨rfl, rfl, rfl, by simp, fun k hk => heap_grow_old _ _ (by simpa using hk)⟩
theorem grc5 {w : World} {a : Addr} {v : Value} (h : w.cell? a = some v) (n : Nat) (os : Array Obj) : (grow (w.drewN n) os).cell? a = some v := cell_grown (lt_of_cell h) h n os
theorem Lay.grown {w0 w : World} {p g bm k a o gi : Nat} {A : Nat → Option Int} {l : List Int} (h : Lay w0 w p g bm k A a o gi l) (n : Nat) (os : Array Obj) : Aside (Lay w0 (grow (w.drewN n) os) p g bm k A a o gi l) := (⟨h.play.grow (below_grow w n os), fun i hi => grc5 (h.cell i hi) n os⟩ : Lay w0 (grow (w.drewN n) os) p g bm k A a o gi l)
/-- Whether y stands at one of the first t slots. -/
def Seen (A : Nat → Option Int) (y : Int) (t : Nat) (bb : Bool) : Prop := bb = true ↔ ∃ s, s < t ∧ A s = some y
theorem Lay.drew {w0 w : World} {p g bm k a o gi : Nat} {A : Nat → Option Int} {l : List Int} (h : Lay w0 w p g bm k A a o gi l) : Aside (Lay w0 w.drew p g bm k A a o gi l) := (⟨h.play.drew.out, h.cell⟩ : Lay w0 w.drew p g bm k A a o gi l)

/-- What the search has found. -/
def FndR (w : World) (p g bm k : Nat) (A : Nat → Option Int) (a o bd : Nat) (d x : Int) (s12 s13 : Value) (wx : World) : Prop :=
  ∃ sl fr : Int, s12 = .int .i64 sl ∧ s13 = .int .i64 fr ∧ Fnd A x k 0 sl fr ∧ Play w wx p g bm k A a o ∧ DBox wx p g bm a o bd d x
/-- What the deed leaves. -/
def DidR (w : World) (p g bm k : Nat) (a o : Nat) (s9 : Value) (wx : World) : Prop :=
  ∃ A : Nat → Option Int, s9 = .int .i64 (cnt A k : Nat) ∧ Play w wx p g bm k A a o

set_option maxRecDepth 100000 in
set_option maxHeartbeats 8000000 in
theorem play_walk (na : Nat) (ha : na < 256) (b off n cap : Nat) (q : List (Int × Int)) (w : World) (hq : q.length = n) (hn : n ≤ 200) (hc : Deeds w b off q) (hT : Tab w) :
    Calls Tryd.prog 3 #[.int .u8 na, .slice (some ⟨b, off, none⟩) n cap] w fun e w' => e = .returned (.bool true) ∧ Below w.heap.size w w' := by
  have T := Lib.hid hT
  have HC := Lib.hid hc
  have HQ := Lib.hid hq
  have hbl := hc.lt
  clear hT hc hq
  have mixed : Tryd.prog.follows .mixedOrders = true := by kernel_rfl
  have hd : decide ((n : Int) > 200) = false := by simp; omega
  have C7 := Lib.hid (awake_true w T.out)
  obtain ⟨k, hk⟩ : ∃ k, k = na % 20 := ⟨_, rfl⟩
  have hk3 : k < 20 := by omega
  have d3 : (na : Int) % 20 = (k : Int) := by omega
  have d4 : (na : Int).tmod 20 = (k : Int) := by rw [Int.tmod_eq_emod_of_nonneg (by omega)]; exact d3
  have wa : IntKind.i64.wrap (na : Int) = (na : Int) := by rw [IntKind.wrap_i64]; omega
  clear hk
  go_enter Tryd.func3, Tryd.ntmps3
  go_wp2_with fail
  refine C7.out.mono ?_
  rintro e w1 ⟨rfl, B1⟩
  have BB := Lib.hid B1
  clear C7 B1
  have C := Lib.hid (st_new BB.out T.out (k : Int) k (by omega) (by rw [if_neg (by omega)]))
  go_wp2_with fail
  refine C.out.mono ?_
  rintro e w2 ⟨p, g, bm, rfl, hm⟩
  have PL := Lib.hid (Play.start hm)
  clear C hm BB
  have mk3 := make3 k k (Nat.le_refl _) (by omega) w2
  have mk4 := make4 k (by omega) (w2.alloc (.cells (Array.replicate k (.int .i64 0)) 3))
  rw [show (w2.alloc (.cells (Array.replicate k (.int .i64 0)) 3)).heap.size = w2.heap.size + 1 by simp] at mk4
  go_wp2_with fail
  clear mk3 mk4
  generalize (w2.alloc (.cells (Array.replicate k (.int .i64 0)) 3)).alloc (.cells (Array.replicate k (.bool false)) 4) = w3 at *
  generalize w2.heap.size + 1 = o at *
  generalize w2.heap.size = a at *
  go_loopg [9, 10] n (fun kx s9 s10 wr => ∃ (i : Nat) (A : Nat → Option Int), s9 = .int .i64 (cnt A k : Nat) ∧ s10 = .int .i64 i ∧ i ≤ n ∧ n - i ≤ kx ∧ Aside (Play w wr p g bm k A a o))
  case atStart => exact ⟨0, _, by rw [cnt_empty]; rfl, rfl, by omega, by omega, PL.out⟩
  case round =>
    clear PL
    obtain ⟨i, A, rfl, rfl, hi, hkx, P⟩ := hrel
    by_cases hlt : i < n
    · have hltz : (i : Int) < (n : Int) := by omega
      have hil : i < q.length := by rw [HQ.out]; exact hlt
      have c0 := (P.out.st.below.cell (p := ⟨b, _, none⟩) hbl).trans (HC.out.c0 i hil)
      have c1 := (P.out.st.below.cell (p := ⟨b, _, none⟩) hbl).trans (HC.out.c1 i hil)
      have hwf := HC.out.wf i hil
      generalize q[i] = dd at c0 c1 hwf
      obtain ⟨d, x⟩ := dd
      simp only at c0 c1 hwf
      go_upto_block 2 with fail
      have PD : Aside (Play w (wr.alloc (.cells #[.int .i64 d, .int .i64 x] 29)) p g bm k A a o) := P.out.grow ((Below.refl _ _).alloc (Nat.le_refl _) _)
      have DB : Aside (DBox (wr.alloc (.cells #[.int .i64 d, .int .i64 x] 29)) p g bm a o wr.heap.size d x) := dbox_new P.out d x
      clear P c0 c1
      generalize wr.alloc (.cells #[.int .i64 d, .int .i64 x] 29) = wd at *
      generalize wr.heap.size = bd at *
      go_cut [12, 13] (fun s12 s13 wx => FndR w p g bm k A a o bd d x s12 s13 wx)
      case first =>
        as_aux_lemma =>
          go_wp2_with fail
          go_loopg [12, 13, 14] k (fun kz s12 s13 s14 wz => ∃ (t : Nat) (sl fr : Int), s12 = .int .i64 sl ∧ s13 = .int .i64 fr ∧ s14 = .int .i64 ((t : Int) - 1) ∧ t ≤ k ∧ t ≤ kz ∧ Aside (Fnd A x k t sl fr) ∧ Aside (Play w wz p g bm k A a o) ∧ Aside (DBox wz p g bm a o bd d x))
          case atStart => exact ⟨k, -1, -1, rfl, rfl, rfl, Nat.le_refl _, Nat.le_refl _, Fnd.start (fun s hs => by obtain ⟨D, r⟩ := PD.out.st.rep; exact r.out s hs), PD, DB⟩
          case round =>
            clear PD DB
            obtain ⟨t, sl, fr, rfl, rfl, rfl, htk, hkz, F, P2, D2⟩ := hrel
            by_cases h0 : 0 < t
            · obtain ⟨t, rfl⟩ : ∃ t', t = t' + 1 := ⟨t - 1, by omega⟩
              have et : ((t + 1 : Nat) : Int) - 1 = (t : Int) := by omega
              rw [et]
              clear et
              have htz : (t : Int) < (k : Int) := by omega
              have ht1 : t < k := by omega
              have wt : IntKind.i64.wrap ((t : Int) - 1) = (t : Int) - 1 := by rw [IntKind.wrap_i64]; omega
              have con := P2.out.on t (by omega)
              cases hA : A t with
              | none =>
                rw [hA] at con
                simp only [Option.isSome_none] at con
                have F2 : Aside (Fnd A x k t sl t) := F.out.free (by omega) hA
                clear hA F
                go_wp2
                go_roundg t
                case measure => omega
                case rel => exact ⟨t, sl, t, rfl, by first | rfl | go_num, by first | rfl | go_num, by omega, Nat.le_refl _, F2, P2, D2⟩
              | some y =>
                rw [hA] at con
                simp only [Option.isSome_some] at con
                obtain ⟨v, cv, hv⟩ := P2.out.ids t (by omega)
                obtain rfl := hv y hA
                have cx := D2.out.c1
                clear hv
                by_cases hy : v = x
                · subst hy
                  have F2 : Aside (Fnd A v k t t fr) := F.out.hit hA
                  clear hA F
                  have hb : (v == v) = true := by simp
                  go_wp2_with fail
                  refine wp_region_still_lit mixed (by kernel_rfl) ?_
                  repeat still_step
                  refine wpStill_nil ?_
                  have P3 := P2.out.drew
                  have D3 := D2.out.drew
                  go_wp2
                  go_roundg t
                  case measure => omega
                  case rel => exact ⟨t, t, fr, by first | rfl | go_num, rfl, by first | rfl | go_num, by omega, Nat.le_refl _, F2, P3, D3⟩
                · have F2 : Aside (Fnd A x k t sl fr) := F.out.skip hA hy
                  clear hA F
                  have hb : (v == x) = false := by simpa using hy
                  have hy2 : ¬ v = x := hy
                  go_wp2_with fail
                  refine wp_region_still_lit mixed (by kernel_rfl) ?_
                  repeat still_step
                  refine wpStill_nil ?_
                  have P3 := P2.out.drew
                  have D3 := D2.out.drew
                  go_wp2
                  go_roundg t
                  case measure => omega
                  case rel => exact ⟨t, sl, fr, rfl, rfl, by first | rfl | go_num, by omega, Nat.le_refl _, F2, P3, D3⟩
            · obtain rfl : t = 0 := by omega
              have et : ((0 : Nat) : Int) - 1 = -1 := by omega
              rw [et]
              go_wp2
              go_meet
              exact ⟨sl, fr, rfl, rfl, F.out, P2.out, D2.out⟩
      case rest =>
        obtain ⟨sl, fr, rfl, rfl, F, P2, D2⟩ := hcut
        have c0 := D2.c0
        have c1 := D2.c1
        go_upto_block 4 with fail
        go_cut [9] (fun s9 wx => DidR w p g bm k a o s9 wx)
        case first =>
          as_aux_lemma =>
            have c1 := D2.c1
            by_cases hdv : d = 0
            · as_aux_lemma =>
                obtain rfl : d = 0 := hdv
                rcases F.sl with ⟨rfl, hn⟩ | ⟨s, _, rfl, hs⟩
                · rcases F.fr with ⟨rfl, hf⟩ | ⟨m, _, hmk, rfl, hAm, hl⟩
                  · have C := Lib.hid (st_put_full P2.st x hwf (fun s => hn s (Nat.zero_le _)) (fun s hs => hf s (Nat.zero_le _) hs))
                    have PH := Lib.hid P2
                    clear F P2 D2 hn hf
                    go_wp2_with fail
                    refine C.out.mono ?_
                    rintro e w5 ⟨rfl, hw⟩
                    obtain rfl := hw.symm
                    clear hw C
                    go_wp2
                    go_meet
                    exact ⟨A, by first | rfl | go_num, PH.out⟩
                  · have C := Lib.hid (st_put_new P2.st x hwf (fun s => hn s (Nat.zero_le _)) m hmk hAm (fun s hs => hl s (Nat.zero_le _) hs))
                    have PH := Lib.hid P2
                    have DH := Lib.hid D2
                    have HA := Lib.hid hAm
                    have hc9 : IntKind.i64.wrap ((cnt A k : Nat) + 1 : Int) = ((cnt A k : Nat) : Int) + 1 := by have := cnt_le A k; rw [IntKind.wrap_i64]; omega
                    have f1 : decide ((m : Int) < 0) = false := by simp
                    have f2 : ((m : Int) != (m : Int)) = false := by simp
                    have hmz : (m : Int) < (k : Int) := by omega
                    clear F P2 D2 hn hl hAm
                    go_wp2_with fail
                    refine C.out.mono ?_
                    rintro e w5 ⟨rfl, S5, K5⟩
                    have PQ := Lib.hid (PH.out.put K5 S5 hmk)
                    have P5 := Lib.hid (PH.out.rows K5)
                    have D5 := DH.out.keep K5
                    have cx := D5.c1
                    have con := P5.out.2.1 m hmk
                    obtain ⟨v, cv⟩ := P5.out.1 m hmk
                    have zo := P5.out.2.2.2 m
                    have za := P5.out.2.2.1 m
                    have cv2 := (World.cell?_setCell_other w5 ⟨o, m, none⟩ ⟨a, m, none⟩ (.bool true) (fun e => PH.out.ao (by cases e; rfl))).trans cv
                    have hoa : ¬ o = a := Ne.symm PH.out.ao
                    have hbo : bd ≠ o := DH.out.ne.2.2.2.2
                    have hba : bd ≠ a := DH.out.ne.2.2.2.1
                    clear C S5 K5 D5
                    go_wp2_with fail
                    go_region_held3 (fun w' => w'.cell? ⟨bd, 1, none⟩ = some (.int .i64 x))
                      (repeat (with_reducible first | assumption | refine cell5_drew ?_ | refine cell5_set ?_ hbo _ | refine cell5_set ?_ hba _))
                      (first | fail)
                    all_goals (go_wp2_with fail)
                    all_goals go_meet
                    all_goals exact ⟨upd A m (some x), by rw [cnt_put HA.out k hmk]; first | rfl | go_num, PQ.out.drew.out⟩
                · have C := Lib.hid (st_put_there P2.st x hwf s hs)
                  have PH := Lib.hid P2
                  have f1 : decide ((s : Int) ≥ 0) = true := by simp
                  clear F P2 D2 hs
                  go_wp2_with fail
                  refine C.out.mono ?_
                  rintro e w5 ⟨rfl, hw⟩
                  obtain rfl := hw.symm
                  clear hw C
                  go_wp2
                  go_meet
                  exact ⟨A, by first | rfl | go_num, PH.out⟩
            · have g0 : (d == 0) = false := by simpa using hdv
              clear hdv
              by_cases hdv : d = 1
              · as_aux_lemma =>
                  obtain rfl : d = 1 := hdv
                  rcases F.sl with ⟨rfl, hn⟩ | ⟨s, _, rfl, hs⟩
                  · rcases F.fr with ⟨rfl, hf⟩ | ⟨m, _, hmk, rfl, hAm, hl⟩
                    · have C := Lib.hid (st_put_full P2.st x hwf (fun s => hn s (Nat.zero_le _)) (fun s hs => hf s (Nat.zero_le _) hs))
                      have PH := Lib.hid P2
                      clear F P2 D2 hn hf
                      go_wp2_with fail
                      refine C.out.mono ?_
                      rintro e w5 ⟨rfl, hw⟩
                      obtain rfl := hw.symm
                      clear hw C
                      go_wp2
                      go_meet
                      exact ⟨A, by first | rfl | go_num, PH.out⟩
                    · have C := Lib.hid (st_put_new P2.st x hwf (fun s => hn s (Nat.zero_le _)) m hmk hAm (fun s hs => hl s (Nat.zero_le _) hs))
                      have PH := Lib.hid P2
                      have DH := Lib.hid D2
                      have HA := Lib.hid hAm
                      have hc9 : IntKind.i64.wrap ((cnt A k : Nat) + 1 : Int) = ((cnt A k : Nat) : Int) + 1 := by have := cnt_le A k; rw [IntKind.wrap_i64]; omega
                      have f1 : decide ((m : Int) < 0) = false := by simp
                      have f2 : ((m : Int) != (m : Int)) = false := by simp
                      have hmz : (m : Int) < (k : Int) := by omega
                      clear F P2 D2 hn hl hAm
                      go_wp2_with fail
                      refine C.out.mono ?_
                      rintro e w5 ⟨rfl, S5, K5⟩
                      have PQ := Lib.hid (PH.out.put K5 S5 hmk)
                      have P5 := Lib.hid (PH.out.rows K5)
                      have D5 := DH.out.keep K5
                      have cx := D5.c1
                      have con := P5.out.2.1 m hmk
                      obtain ⟨v, cv⟩ := P5.out.1 m hmk
                      have zo := P5.out.2.2.2 m
                      have za := P5.out.2.2.1 m
                      have cv2 := (World.cell?_setCell_other w5 ⟨o, m, none⟩ ⟨a, m, none⟩ (.bool true) (fun e => PH.out.ao (by cases e; rfl))).trans cv
                      have hoa : ¬ o = a := Ne.symm PH.out.ao
                      have hbo : bd ≠ o := DH.out.ne.2.2.2.2
                      have hba : bd ≠ a := DH.out.ne.2.2.2.1
                      clear C S5 K5 D5
                      go_wp2_with fail
                      go_region_held3 (fun w' => w'.cell? ⟨bd, 1, none⟩ = some (.int .i64 x))
                        (repeat (with_reducible first | assumption | refine cell5_drew ?_ | refine cell5_set ?_ hbo _ | refine cell5_set ?_ hba _))
                        (first | fail)
                      all_goals (go_wp2_with fail)
                      all_goals go_meet
                      all_goals exact ⟨upd A m (some x), by rw [cnt_put HA.out k hmk]; first | rfl | go_num, PQ.out.drew.out⟩
                  · have C := Lib.hid (st_put_there P2.st x hwf s hs)
                    have PH := Lib.hid P2
                    have f1 : decide ((s : Int) ≥ 0) = true := by simp
                    clear F P2 D2 hs
                    go_wp2_with fail
                    refine C.out.mono ?_
                    rintro e w5 ⟨rfl, hw⟩
                    obtain rfl := hw.symm
                    clear hw C
                    go_wp2
                    go_meet
                    exact ⟨A, by first | rfl | go_num, PH.out⟩
              · have g1 : (d == 1) = false := by simpa using hdv
                clear hdv
                by_cases hdv : d = 2
                · as_aux_lemma =>
                    obtain rfl : d = 2 := hdv
                    rcases F.sl with ⟨rfl, hn⟩ | ⟨s, _, rfl, hs⟩
                    · rcases F.fr with ⟨rfl, hf⟩ | ⟨m, _, hmk, rfl, hAm, hl⟩
                      · have C := Lib.hid (st_put_full P2.st x hwf (fun s => hn s (Nat.zero_le _)) (fun s hs => hf s (Nat.zero_le _) hs))
                        have PH := Lib.hid P2
                        clear F P2 D2 hn hf
                        go_wp2_with fail
                        refine C.out.mono ?_
                        rintro e w5 ⟨rfl, hw⟩
                        obtain rfl := hw.symm
                        clear hw C
                        go_wp2
                        go_meet
                        exact ⟨A, by first | rfl | go_num, PH.out⟩
                      · have C := Lib.hid (st_put_new P2.st x hwf (fun s => hn s (Nat.zero_le _)) m hmk hAm (fun s hs => hl s (Nat.zero_le _) hs))
                        have PH := Lib.hid P2
                        have DH := Lib.hid D2
                        have HA := Lib.hid hAm
                        have hc9 : IntKind.i64.wrap ((cnt A k : Nat) + 1 : Int) = ((cnt A k : Nat) : Int) + 1 := by have := cnt_le A k; rw [IntKind.wrap_i64]; omega
                        have f1 : decide ((m : Int) < 0) = false := by simp
                        have f2 : ((m : Int) != (m : Int)) = false := by simp
                        have hmz : (m : Int) < (k : Int) := by omega
                        clear F P2 D2 hn hl hAm
                        go_wp2_with fail
                        refine C.out.mono ?_
                        rintro e w5 ⟨rfl, S5, K5⟩
                        have PQ := Lib.hid (PH.out.put K5 S5 hmk)
                        have P5 := Lib.hid (PH.out.rows K5)
                        have D5 := DH.out.keep K5
                        have cx := D5.c1
                        have con := P5.out.2.1 m hmk
                        obtain ⟨v, cv⟩ := P5.out.1 m hmk
                        have zo := P5.out.2.2.2 m
                        have za := P5.out.2.2.1 m
                        have cv2 := (World.cell?_setCell_other w5 ⟨o, m, none⟩ ⟨a, m, none⟩ (.bool true) (fun e => PH.out.ao (by cases e; rfl))).trans cv
                        have hoa : ¬ o = a := Ne.symm PH.out.ao
                        have hbo : bd ≠ o := DH.out.ne.2.2.2.2
                        have hba : bd ≠ a := DH.out.ne.2.2.2.1
                        clear C S5 K5 D5
                        go_wp2_with fail
                        go_region_held3 (fun w' => w'.cell? ⟨bd, 1, none⟩ = some (.int .i64 x))
                          (repeat (with_reducible first | assumption | refine cell5_drew ?_ | refine cell5_set ?_ hbo _ | refine cell5_set ?_ hba _))
                          (first | fail)
                        all_goals (go_wp2_with fail)
                        all_goals go_meet
                        all_goals exact ⟨upd A m (some x), by rw [cnt_put HA.out k hmk]; first | rfl | go_num, PQ.out.drew.out⟩
                    · have C := Lib.hid (st_put_there P2.st x hwf s hs)
                      have PH := Lib.hid P2
                      have f1 : decide ((s : Int) ≥ 0) = true := by simp
                      clear F P2 D2 hs
                      go_wp2_with fail
                      refine C.out.mono ?_
                      rintro e w5 ⟨rfl, hw⟩
                      obtain rfl := hw.symm
                      clear hw C
                      go_wp2
                      go_meet
                      exact ⟨A, by first | rfl | go_num, PH.out⟩
                · have g2 : (d == 2) = false := by simpa using hdv
                  clear hdv
                  by_cases hdv : d = 3
                  · as_aux_lemma =>
                      obtain rfl : d = 3 := hdv
                      rcases F.sl with ⟨rfl, hn⟩ | ⟨s, _, rfl, hs⟩
                      · have C := Lib.hid (st_drop_none P2.st x hwf (fun s => hn s (Nat.zero_le _)))
                        have PH := Lib.hid P2
                        clear F P2 D2 hn
                        go_wp2_with fail
                        refine C.out.mono ?_
                        rintro e w5 ⟨rfl, hw⟩
                        obtain rfl := hw.symm
                        clear hw C
                        go_wp2
                        go_meet
                        exact ⟨A, by first | rfl | go_num, PH.out⟩
                      · have hsk : s < k := by
                          obtain ⟨D, r⟩ := P2.st.rep
                          rcases Nat.lt_or_ge s k with q | q
                          · exact q
                          · rw [r.out s q] at hs; cases hs
                        have C := Lib.hid (st_drop_some P2.st x hwf s hs)
                        have PH := Lib.hid P2
                        have HA := Lib.hid hs
                        have hcd := cnt_drop hs k hsk
                        have HD := Lib.hid hcd
                        have hc9 : IntKind.i64.wrap ((cnt A k : Nat) - 1 : Int) = ((cnt A k : Nat) : Int) - 1 := by have := cnt_le A k; rw [IntKind.wrap_i64]; omega
                        have f1 : decide ((s : Int) ≥ 0) = true := by simp
                        have hsz : (s : Int) < (k : Int) := by omega
                        clear F P2 D2 hs hcd
                        go_wp2_with fail
                        refine C.out.mono ?_
                        rintro e w5 ⟨rfl, S5, K5⟩
                        have PQ := Lib.hid (PH.out.drop K5 S5 hsk)
                        have P5 := Lib.hid (PH.out.rows K5)
                        have con := P5.out.2.1 s hsk
                        have zo := P5.out.2.2.2 s
                        clear C S5 K5
                        go_wp2
                        go_meet
                        exact ⟨upd A s none, by rw [show ((cnt A k : Nat) : Int) - 1 = ((cnt (upd A s none) k : Nat) : Int) by have := HD.out; omega], PQ.out⟩
                  · have g3 : (d == 3) = false := by simpa using hdv
                    clear hdv
                    by_cases hdv : d = 4
                    · as_aux_lemma =>
                        obtain rfl : d = 4 := hdv
                        rcases F.sl with ⟨rfl, hn⟩ | ⟨s, _, rfl, hs⟩
                        · have C := Lib.hid (st_get_none P2.st x hwf (fun s => hn s (Nat.zero_le _)))
                          have PH := Lib.hid P2
                          clear F P2 D2 hn
                          go_wp2_with fail
                          refine C.out.mono ?_
                          rintro e w5 ⟨rfl, hw⟩
                          obtain rfl := hw.symm
                          clear hw C
                          go_wp2
                          go_meet
                          exact ⟨A, by first | rfl | go_num, PH.out⟩
                        · have C := Lib.hid (st_get_some P2.st x hwf s hs)
                          have PH := Lib.hid P2
                          have f1 : decide ((s : Int) ≥ 0) = true := by simp
                          have f2 : ((s : Int) != (s : Int)) = false := by simp
                          clear F P2 D2 hs
                          go_wp2_with fail
                          refine C.out.mono ?_
                          rintro e w5 ⟨rfl, hw⟩
                          obtain rfl := hw.symm
                          clear hw C
                          go_wp2
                          go_meet
                          exact ⟨A, by first | rfl | go_num, PH.out⟩
                    · have g4 : (d == 4) = false := by simpa using hdv
                      clear hdv
                      by_cases hdv : d = 5
                      · as_aux_lemma =>
                          obtain rfl : d = 5 := hdv
                          by_cases x0 : x < 0
                          · have f1 : decide (x ≥ 0) = false := by simp; omega
                            have f1b : ¬ (0 : Int) ≤ x := by omega
                            have C := Lib.hid (st_id_none P2.st x (.inl x0))
                            have PH := Lib.hid P2
                            have DH := Lib.hid D2
                            clear F P2 D2
                            go_wp2_with fail
                            refine C.out.mono ?_
                            rintro e w5 ⟨rfl, S5, K5⟩
                            have D5 := DH.out.keep K5
                            have cx := D5.c1
                            have PQ := Lib.hid (PH.out.keep K5 S5)
                            clear C S5 K5 D5
                            go_wp2
                            go_meet
                            exact ⟨A, by first | rfl | go_num, PQ.out⟩
                          · have f1 : decide (x ≥ 0) = true := by simp; omega
                            have f1b : (0 : Int) ≤ x := by omega
                            by_cases x1 : (k : Int) ≤ x
                            · have f2 : decide (x < (k : Int)) = false := by simp; omega
                              have f2b : ¬ x < (k : Int) := by omega
                              have C := Lib.hid (st_id_none P2.st x (.inr (.inl x1)))
                              have PH := Lib.hid P2
                              have DH := Lib.hid D2
                              clear F P2 D2
                              go_wp2_with fail
                              refine C.out.mono ?_
                              rintro e w5 ⟨rfl, S5, K5⟩
                              have D5 := DH.out.keep K5
                              have cx := D5.c1
                              have PQ := Lib.hid (PH.out.keep K5 S5)
                              clear C S5 K5 D5
                              go_wp2
                              go_meet
                              exact ⟨A, by first | rfl | go_num, PQ.out⟩
                            · obtain ⟨s, rfl⟩ : ∃ s : Nat, x = s := ⟨x.toNat, by omega⟩
                              have hsk : s < k := by omega
                              have f2 : decide ((s : Int) < (k : Int)) = true := by simp; omega
                              have f2b : (s : Int) < (k : Int) := by omega
                              cases hA : A s with
                              | none =>
                                have C := Lib.hid (st_id_none P2.st (s : Int) (.inr (.inr ⟨s, rfl, hA⟩)))
                                have PH := Lib.hid P2
                                have DH := Lib.hid D2
                                have HA := Lib.hid hA
                                clear F P2 D2
                                go_wp2_with fail
                                refine C.out.mono ?_
                                rintro e w5 ⟨rfl, S5, K5⟩
                                have D5 := DH.out.keep K5
                                have cx := D5.c1
                                have PQ := Lib.hid (PH.out.keep K5 S5)
                                have con := PQ.out.on s hsk
                                rw [HA.out] at con
                                simp only [Option.isSome_none] at con
                                clear hA
                                clear C S5 K5 D5
                                go_wp2
                                go_meet
                                exact ⟨A, by first | rfl | go_num, PQ.out⟩
                              | some y =>
                                have C := Lib.hid (st_id_some P2.st s y hA)
                                have PH := Lib.hid P2
                                have DH := Lib.hid D2
                                have HA := Lib.hid hA
                                clear F P2 D2 hA
                                go_wp2_with fail
                                refine C.out.mono ?_
                                rintro e w5 ⟨rfl, S5, K5⟩
                                have D5 := DH.out.keep K5
                                have cx := D5.c1
                                have PQ := Lib.hid (PH.out.keep K5 S5)
                                have con := PQ.out.on s hsk
                                rw [HA.out] at con
                                simp only [Option.isSome_some] at con
                                obtain ⟨v, cv, hv⟩ := PQ.out.ids s hsk
                                obtain rfl := hv y HA.out
                                have f3 : (v != v) = false := by simp
                                clear C S5 K5 D5 hv
                                go_wp2
                                go_meet
                                exact ⟨A, by first | rfl | go_num, PQ.out⟩
                      · have g5 : (d == 5) = false := by simpa using hdv
                        clear hdv
                        as_aux_lemma =>
                          have PH := Lib.hid P2
                          clear F P2 D2
                          go_wp2
                          go_meet
                          exact ⟨A, by first | rfl | go_num, PH.out⟩
        case rest =>
          obtain ⟨A2, rfl, P3⟩ := hcut
          clear F P2 D2
          have PH := Lib.hid P3
          have C := Lib.hid (st_ids P3.st)
          clear P3
          go_wp2_with fail
          refine C.out.mono ?_
          rintro e w6 ⟨gi, cap2, l, rfl, hI⟩
          have C2 := Lib.hid (st_len hI.st)
          have LL := Lib.hid (Lay.of PH.out hI)
          have HR := Lib.hid hI.rise
          have HM := Lib.hid hI.mem
          obtain ⟨m, hm⟩ : ∃ m, m = cnt A2 k := ⟨_, rfl⟩
          have hl : l.length = m := by rw [hm]; exact hI.len
          have hmc : m ≤ cap2 := by rw [← hl]; exact hI.cap
          have hm20 : m ≤ 20 := by rw [hm]; have := cnt_le A2 k; omega
          rw [← hm] at C2 ⊢
          rw [hl]
          have LM := Lib.hid hl
          have HMC := Lib.hid hm
          have f0 : ((m : Int) != (m : Int)) = false := by simp
          clear C hI hm hl PH
          go_wp2_with fail
          refine C2.out.mono ?_
          rintro e w7 ⟨rfl, hw⟩
          obtain rfl := hw.symm
          clear hw C2
          go_wp2_with fail
          go_loopg [23] m (fun ky s23 wz => ∃ j : Nat, s23 = .int .i64 j ∧ j ≤ m ∧ m - j ≤ ky ∧ Aside (Lay w wz p g bm k A2 a o gi l))
          case atStart => exact ⟨0, rfl, by omega, by omega, LL.out⟩
          case round =>
            clear LL
            obtain ⟨j, rfl, hjm, hky, LZ⟩ := hrel
            by_cases hj : j < m
            · have hjz : (j : Int) < (m : Int) := by omega
              rcases Nat.eq_zero_or_pos j with h0 | h0
              · subst h0
                have hj0 : 0 < l.length := by rw [LM.out]; exact hj
                obtain ⟨y, ey⟩ : ∃ y, y = l[0]'hj0 := ⟨_, rfl⟩
                have EY := Lib.hid ey
                clear ey
                have hgt : decide (((0 : Nat) : Int) > 0) = false := by simp
                have LD0 := fun nq osq => LZ.out.grown nq osq
                clear LZ
                go_wp2_with fail
                refine wp_region_quiet_grown mixed (by kernel_rfl) ?_
                repeat (go_big_quiet_step (fail))
                refine wpQuiet_nil ?_
                intro _ hw'
                obtain ⟨⟨nq, osq⟩, hw''⟩ := hw'
                subst hw''
                have LD := LD0 nq osq
                clear LD0
                go_wp2_with fail
                go_loopg [24, 25] k (fun kz s24 s25 wq => ∃ (t : Nat) (bb : Bool), s24 = .bool bb ∧ s25 = .int .i64 t ∧ t ≤ k ∧ k - t ≤ kz ∧ Aside (Seen A2 y t bb) ∧ Aside (Lay w wq p g bm k A2 a o gi l))
                case atStart => exact ⟨0, false, rfl, rfl, by omega, by omega, (⟨fun h => (by cases h), fun ⟨s, h, _⟩ => (by omega)⟩ : Seen A2 y 0 false), LD⟩
                case round =>
                  clear LD
                  obtain ⟨t, bb, rfl, rfl, htk, hkz, BH, LQ⟩ := hrel
                  by_cases ht : t < k
                  · have htz : (t : Int) < (k : Int) := by omega
                    have LQ2 := fun nq osq => LQ.out.grown nq osq
                    cases bb with
                    | true =>
                      have B2 : Aside (Seen A2 y (t + 1) true) := (⟨fun _ => (by obtain ⟨s, h1, h2⟩ := BH.out.1 rfl; exact ⟨s, by omega, h2⟩), fun _ => rfl⟩ : Seen A2 y (t + 1) true)
                      clear BH LQ
                      go_wp2_with fail
                      refine wp_region_quiet_grown mixed (by kernel_rfl) ?_
                      repeat (go_big_quiet_step (fail))
                      refine wpQuiet_nil ?_
                      intro _ hw'
                      obtain ⟨⟨nq, osq⟩, hw''⟩ := hw'
                      subst hw''
                      go_wp2
                      go_roundg (k - (t + 1))
                      case measure => omega
                      case rel => exact ⟨t + 1, true, by first | rfl | go_num, by first | rfl | go_num, by omega, Nat.le_refl _, B2, LQ2 _ _⟩
                    | false =>
                      have con := LQ.out.play.on t ht
                      have cy0 := LQ.out.cell 0 hj0
                      rw [← EY.out] at cy0
                      have cy := grc5 cy0
                      clear cy0
                      cases hA : A2 t with
                      | none =>
                        rw [hA] at con
                        simp only [Option.isSome_none] at con
                        replace con := grc5 con
                        have B2 : Aside (Seen A2 y (t + 1) false) := (⟨fun h => (by cases h), fun ⟨s, h1, h2⟩ => by
                          by_cases e : s = t
                          · subst e; rw [hA] at h2; cases h2
                          · exact BH.out.2 ⟨s, by omega, h2⟩⟩ : Seen A2 y (t + 1) false)
                        clear BH LQ hA
                        go_wp2_with fail
                        refine wp_region_quiet_grown mixed (by kernel_rfl) ?_
                        repeat (go_big_quiet_step (fail))
                        refine wpQuiet_nil ?_
                        intro _ hw'
                        obtain ⟨⟨nq, osq⟩, hw''⟩ := hw'
                        subst hw''
                        go_wp2
                        go_roundg (k - (t + 1))
                        case measure => omega
                        case rel => exact ⟨t + 1, false, by first | rfl | go_num, by first | rfl | go_num, by omega, Nat.le_refl _, B2, LQ2 _ _⟩
                      | some v =>
                        rw [hA] at con
                        simp only [Option.isSome_some] at con
                        replace con := grc5 con
                        obtain ⟨v', cv, hv⟩ := LQ.out.play.ids t ht
                        obtain rfl := hv v hA
                        replace cv := grc5 cv
                        have B2 : Aside (Seen A2 y (t + 1) (v' == y)) := (⟨fun h => ⟨t, by omega, by rw [hA]; simpa using h⟩, fun ⟨s, h1, h2⟩ => by
                          by_cases e : s = t
                          · subst e; rw [hA] at h2; simpa using h2
                          · have := BH.out.2 ⟨s, by omega, h2⟩; cases this⟩ : Seen A2 y (t + 1) (v' == y))
                        clear BH LQ hA hv
                        obtain ⟨cc, hcc⟩ : ∃ cc, (v' == y) = cc := ⟨_, rfl⟩
                        rw [hcc] at B2
                        go_wp2_with fail
                        refine wp_region_quiet_grown mixed (by kernel_rfl) ?_
                        repeat (go_big_quiet_step (fail))
                        refine wpQuiet_nil ?_
                        intro _ hw'
                        obtain ⟨⟨nq, osq⟩, hw''⟩ := hw'
                        subst hw''
                        go_wp2
                        go_roundg (k - (t + 1))
                        case measure => omega
                        case rel => exact ⟨t + 1, cc, by first | rfl | go_num | (simp [hcc]), by first | rfl | go_num, by omega, Nat.le_refl _, B2, LQ2 _ _⟩
                  · have htz : ¬ (t : Int) < (k : Int) := by omega
                    obtain rfl : bb = true := BH.out.2 (by
                      obtain ⟨s, hs⟩ := (HM.out y).1 (by rw [EY.out]; exact List.getElem_mem hj0)
                      refine ⟨s, ?_, hs⟩
                      obtain ⟨D, r⟩ := LQ.out.play.st.rep
                      rcases Nat.lt_or_ge s k with q | q
                      · omega
                      · rw [r.out s q] at hs; cases hs)
                    clear BH
                    go_wp2
                    go_roundg (m - (0 + 1))
                    case measure => omega
                    case rel => exact ⟨0 + 1, by go_num, by omega, Nat.le_refl _, LQ⟩
              · obtain ⟨jp, rfl⟩ : ∃ jp, j = jp + 1 := ⟨j - 1, by omega⟩
                have hj1 : jp + 1 < l.length := by rw [LM.out]; exact hj
                have hj0 : jp < l.length := by omega
                have k1 := LZ.out.cell (jp + 1) hj1
                have k0 := LZ.out.cell jp hj0
                have hlt2 : l[jp] < l[jp + 1] := List.pairwise_iff_getElem.1 HR.out jp (jp + 1) hj0 hj1 (by omega)
                obtain ⟨y, ey⟩ : ∃ y, y = l[jp + 1] := ⟨_, rfl⟩
                obtain ⟨y0, ey0⟩ : ∃ y0, y0 = l[jp] := ⟨_, rfl⟩
                rw [← ey] at k1 hlt2
                rw [← ey0] at k0 hlt2
                replace k0 := grc5 k0
                replace k1 := grc5 k1
                have EY := Lib.hid ey
                clear ey ey0
                have hz3 : ((jp + 1 : Nat) : Int) = (jp : Int) + 1 := by omega
                have hpos : (0 : Int) < (jp : Int) + 1 := by omega
                have hgt : decide ((jp : Int) + 1 > 0) = true := decide_eq_true (by omega)
                have hwp : IntKind.i64.wrap (jp : Int) = (jp : Int) := by rw [IntKind.wrap_i64]; omega
                have jz : (jp : Int) < (m : Int) := by omega
                have hle : decide (y ≤ y0) = false := by simp; omega
                have LD0 := fun nq osq => LZ.out.grown nq osq
                clear LZ
                go_wp2_with fail
                refine wp_region_quiet_grown mixed (by kernel_rfl) ?_
                repeat (go_big_quiet_step (fail))
                refine wpQuiet_nil ?_
                intro _ hw'
                obtain ⟨⟨nq, osq⟩, hw''⟩ := hw'
                subst hw''
                have LD := LD0 nq osq
                clear k0 k1 LD0
                go_wp2_with fail
                go_loopg [24, 25] k (fun kz s24 s25 wq => ∃ (t : Nat) (bb : Bool), s24 = .bool bb ∧ s25 = .int .i64 t ∧ t ≤ k ∧ k - t ≤ kz ∧ Aside (Seen A2 y t bb) ∧ Aside (Lay w wq p g bm k A2 a o gi l))
                case atStart => exact ⟨0, false, rfl, rfl, by omega, by omega, (⟨fun h => (by cases h), fun ⟨s, h, _⟩ => (by omega)⟩ : Seen A2 y 0 false), LD⟩
                case round =>
                  clear LD
                  obtain ⟨t, bb, rfl, rfl, htk, hkz, BH, LQ⟩ := hrel
                  by_cases ht : t < k
                  · have htz : (t : Int) < (k : Int) := by omega
                    have LQ2 := fun nq osq => LQ.out.grown nq osq
                    cases bb with
                    | true =>
                      have B2 : Aside (Seen A2 y (t + 1) true) := (⟨fun _ => (by obtain ⟨s, h1, h2⟩ := BH.out.1 rfl; exact ⟨s, by omega, h2⟩), fun _ => rfl⟩ : Seen A2 y (t + 1) true)
                      clear BH LQ
                      go_wp2_with fail
                      refine wp_region_quiet_grown mixed (by kernel_rfl) ?_
                      repeat (go_big_quiet_step (fail))
                      refine wpQuiet_nil ?_
                      intro _ hw'
                      obtain ⟨⟨nq, osq⟩, hw''⟩ := hw'
                      subst hw''
                      go_wp2
                      go_roundg (k - (t + 1))
                      case measure => omega
                      case rel => exact ⟨t + 1, true, by first | rfl | go_num, by first | rfl | go_num, by omega, Nat.le_refl _, B2, LQ2 _ _⟩
                    | false =>
                      have con := LQ.out.play.on t ht
                      have cy0 := LQ.out.cell (jp + 1) hj1
                      rw [← EY.out] at cy0
                      have cy := grc5 cy0
                      clear cy0
                      cases hA : A2 t with
                      | none =>
                        rw [hA] at con
                        simp only [Option.isSome_none] at con
                        replace con := grc5 con
                        have B2 : Aside (Seen A2 y (t + 1) false) := (⟨fun h => (by cases h), fun ⟨s, h1, h2⟩ => by
                          by_cases e : s = t
                          · subst e; rw [hA] at h2; cases h2
                          · exact BH.out.2 ⟨s, by omega, h2⟩⟩ : Seen A2 y (t + 1) false)
                        clear BH LQ hA
                        go_wp2_with fail
                        refine wp_region_quiet_grown mixed (by kernel_rfl) ?_
                        repeat (go_big_quiet_step (fail))
                        refine wpQuiet_nil ?_
                        intro _ hw'
                        obtain ⟨⟨nq, osq⟩, hw''⟩ := hw'
                        subst hw''
                        go_wp2
                        go_roundg (k - (t + 1))
                        case measure => omega
                        case rel => exact ⟨t + 1, false, by first | rfl | go_num, by first | rfl | go_num, by omega, Nat.le_refl _, B2, LQ2 _ _⟩
                      | some v =>
                        rw [hA] at con
                        simp only [Option.isSome_some] at con
                        replace con := grc5 con
                        obtain ⟨v', cv, hv⟩ := LQ.out.play.ids t ht
                        obtain rfl := hv v hA
                        replace cv := grc5 cv
                        have B2 : Aside (Seen A2 y (t + 1) (v' == y)) := (⟨fun h => ⟨t, by omega, by rw [hA]; simpa using h⟩, fun ⟨s, h1, h2⟩ => by
                          by_cases e : s = t
                          · subst e; rw [hA] at h2; simpa using h2
                          · have := BH.out.2 ⟨s, by omega, h2⟩; cases this⟩ : Seen A2 y (t + 1) (v' == y))
                        clear BH LQ hA hv
                        obtain ⟨cc, hcc⟩ : ∃ cc, (v' == y) = cc := ⟨_, rfl⟩
                        rw [hcc] at B2
                        go_wp2_with fail
                        refine wp_region_quiet_grown mixed (by kernel_rfl) ?_
                        repeat (go_big_quiet_step (fail))
                        refine wpQuiet_nil ?_
                        intro _ hw'
                        obtain ⟨⟨nq, osq⟩, hw''⟩ := hw'
                        subst hw''
                        go_wp2
                        go_roundg (k - (t + 1))
                        case measure => omega
                        case rel => exact ⟨t + 1, cc, by first | rfl | go_num | (simp [hcc]), by first | rfl | go_num, by omega, Nat.le_refl _, B2, LQ2 _ _⟩
                  · have htz : ¬ (t : Int) < (k : Int) := by omega
                    obtain rfl : bb = true := BH.out.2 (by
                      obtain ⟨s, hs⟩ := (HM.out y).1 (by rw [EY.out]; exact List.getElem_mem hj1)
                      refine ⟨s, ?_, hs⟩
                      obtain ⟨D, r⟩ := LQ.out.play.st.rep
                      rcases Nat.lt_or_ge s k with q | q
                      · omega
                      · rw [r.out s q] at hs; cases hs)
                    clear BH
                    go_wp2
                    go_roundg (m - ((jp + 1) + 1))
                    case measure => omega
                    case rel => exact ⟨(jp + 1) + 1, by go_num, by omega, Nat.le_refl _, LQ⟩
            · have hjz : ¬ (j : Int) < (m : Int) := by omega
              go_wp2
              go_roundg (n - (i + 1))
              case measure => omega
              case rel => exact ⟨i + 1, A2, by rw [← HMC.out], by go_num, by omega, Nat.le_refl _, LZ.out.play⟩
    · have hltz : ¬ (i : Int) < (n : Int) := by omega
      go_wp2
      go_ret
      exact ⟨rfl, P.out.st.below⟩
end Go.Proofs.YtfhnjknlehecgaaDoor
