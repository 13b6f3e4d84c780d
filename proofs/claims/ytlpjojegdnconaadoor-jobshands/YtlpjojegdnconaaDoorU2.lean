/- Jobs: Release walked. -/
import Derived.Test.YtlpjojegdnconaaDoorU1
namespace Go.Proofs.YtlpjojegdnconaaDoor
open Go.RowKit Go.Lib Go.Maps
open Ca (Ke Gr Sv Row Cl Ky Bs blk_other)
set_option linter.unusedVariables false
set_option maxRecDepth 100000
set_option maxHeartbeats 4000000
section
variable {w : World} {base p n c g bm : Nat} {v : Value} {m : Nat} {A : Nat → Option Int} {T : Nat → Tk} {D : DataW Unit} {Fc : Nat → Prop} {L : List Ky} {q cap : Nat} {S : List Tk} {F : Nat → Prop} {t : Int}
theorem release_nil (hx : Jx w base p n c g bm (.slice none 0 0) 0 A T D Fc L) (a : At c A T) (sl : Sl S A T) (lk : Lk A T L) (t : Int) :
    Calls Tryd.prog 19 #[.pointer (some ⟨p, 0, none⟩), .int .i64 t] w fun e w' => RelQ w base p n c (FJ g bm (.slice none 0 0) Fc) S t e w' := by
  have c67 := hx.c67
  have E := Lib.hid (rei_end (rei_start hx a lk t) a sl hx.tk (by omega))
  clear hx a sl lk
  go_enter Tryd.func19, Tryd.ntmps19
  go_wp2_with fail
  go_loopg [5, 17] 0 (fun kx s5 s17 wr => s5 = .slice none 0 0 ∧ s17 = .int .i64 0 ∧ wr = w)
  case atStart => exact ⟨rfl, rfl, rfl⟩
  case round =>
    obtain ⟨rfl, rfl, rfl⟩ := hrel
    go_wp2_with fail
    refine E.out.mono ?_
    rintro e w1 ⟨rfl, Q⟩
    have QQ := Lib.hid Q
    clear E Q
    go_wp2_with fail
    go_ret
    exact QQ.out
theorem release_some (hx : Jx w base p n c g bm (.slice (some ⟨q, 0, none⟩) m cap) m A T D Fc L) (a : At c A T) (sl : Sl S A T) (lk : Lk A T L) (h0 : 0 ≤ t) (ht : t ≤ 1000000000000) (hc : c + n ≤ 65535) :
    Calls Tryd.prog 19 #[.pointer (some ⟨p, 0, none⟩), .int .i64 t] w fun e w' => RelQ w base p n c (FJ g bm (.slice (some ⟨q, 0, none⟩) m cap) Fc) S t e w' := by
  have c67 := hx.c67
  have hm4 : m ≤ 4096 := Nat.le_trans hx.mn hx.rep.n4
  have HX := Lib.hid hx
  have HA := Lib.hid a
  have HS := Lib.hid sl
  have HL := Lib.hid lk
  have HC := Lib.hid hc
  have H0 := Lib.hid h0
  have HT := Lib.hid ht
  have ST := Lib.hid (rei_start hx a lk t)
  clear hx a sl lk hc h0 ht
  go_enter Tryd.func19, Tryd.ntmps19
  go_wp2_with fail
  clear c67
  go_loopg [5, 17] m (fun kx s5 s17 wr => ∃ (k : Nat) (u : Value), u = s5 ∧ s17 = .int .i64 k ∧ k ≤ m ∧ m - k ≤ kx ∧ Aside (ReI w base p n c g bm (.slice (some ⟨q, 0, none⟩) m cap) m A T D (FJ g bm (.slice (some ⟨q, 0, none⟩) m cap) Fc) t k u wr))
  case atStart => exact ⟨0, _, rfl, rfl, by omega, by omega, ST.out⟩
  case round =>
    obtain ⟨k, u, rfl, rfl, hk, hkx, RI⟩ := hrel
    by_cases hlt : k < m
    · have hltz : (k : Int) < (m : Int) := by omega
      have hk4 : k ≤ 4096 := by omega
      obtain ⟨Fc1, L1, hx, a1, lk1, sv, nf⟩ := RI.out.ex
      have c67 := hx.c67
      cases hA : A k with
      | none =>
        have C := Lib.hid (id_none p g bm n A D wr hx.rep (k : Int) (.inr (.inr ⟨k, rfl, hA⟩)))
        have NX := Lib.hid (RI.out.skip (by rw [hA]; simp))
        clear hx a1 lk1 sv nf hA ST
        go_wp2_with fail
        refine C.out.mono ?_
        rintro e w1 ⟨rfl, hw⟩
        have G : Gr wr w1 := by
          rcases hw with rfl | rfl
          · exact Ke.refl _ _
          · exact (Ke.refl _ _).drew
        have c67' := Ca.gcell G c67
        have GG := Lib.hid G
        clear hw G c67 C
        go_wp2_with fail
        go_roundg (m - (k + 1))
        case measure => omega
        case rel => exact ⟨k + 1, _, rfl, by go_num, by omega, Nat.le_refl _, NX.out.gr GG.out⟩
      | some y =>
        have C := Lib.hid (id_some p g bm n A D wr hx.rep k y hA)
        have c67' : wr.drew.cell? ⟨p, 67, none⟩ = some (.slice (some ⟨q, 0, none⟩) m cap) := c67
        have hxd := hx.gr (Ke.refl _ wr).drew
        have k6 := hxd.cell hlt (o := 6) (by omega)
        have k3 := hxd.cell hlt (o := 3) (by omega)
        have k5 := hxd.cell hlt (o := 5) (by omega)
        rw [TR_at] at k6 k3 k5
        simp only [fld] at k6 k3 k5
        have RD := Lib.hid (ready_any q (k * 11) _ _ _ wr.drew k6 k3 k5)
        rw [show (!(T k).ac && (!(T k).sp || (T k).wa)) = ready (T k) from rfl] at RD
        have hidk := HA.out.id k y hA
        have BG : Hid (ready (T k) = true → _) := Lib.hid (fun hr => begin_jx (t := t) hxd a1 lk1 hA (by rw [TR_at]; exact hr) H0.out HT.out (by
          have := rI_len (A := A) (T := T) k
          have := HC.out
          have := HX.out.mn
          omega))
        have SK := Lib.hid (fun (hr : ¬ ready (T k) = true) => RI.out.skip (t := t) (k := k) (fun z => hr z.2))
        clear k6 k3 k5 c67 hx hxd
        cases hr : ready (T k) with
        | false =>
          rw [hr] at RD
          have NX := Lib.hid ((SK.out (by rw [hr]; simp)).gr (Ke.refl _ wr).drew)
          clear a1 lk1 sv nf hA ST BG SK hr hidk
          go_wp2_with fail
          refine C.out.mono ?_
          rintro e w1 ⟨rfl, hw⟩
          obtain rfl := hw
          clear C
          go_wp2_with fail
          refine RD.out.mono ?_
          rintro e w1 ⟨rfl, hw⟩
          obtain rfl := hw
          clear RD
          go_wp2_with fail
          go_roundg (m - (k + 1))
          case measure => omega
          case rel => exact ⟨k + 1, _, rfl, by go_num, by omega, Nat.le_refl _, NX.out⟩
        | true =>
          rw [hr] at RD
          have B1 := Lib.hid (BG.out hr)
          rw [TR_at] at B1
          have STP : Hid (∀ (w2 : World) (Fc' : Nat → Prop) (L' : List Ky), Sv (FJ g bm (.slice (some ⟨q, 0, none⟩) m cap) Fc1) (FJ g bm (.slice (some ⟨q, 0, none⟩) m cap) Fc') wr.drew w2 → Jx w2 base p n (c + (rI A T k).length + 1) g bm (.slice (some ⟨q, 0, none⟩) m cap) m A (upd (TR t A T k) k (begT t (T k))) D Fc' L' → At (c + (rI A T k).length + 1) A (upd (TR t A T k) k (begT t (T k))) → Lk A (upd (TR t A T k) k (begT t (T k))) L' → ∃ u' w3, (Builtin.append_ #[42, 42] 42 #[u, .slice (some ⟨w2.heap.size, 0, none⟩) 1 1]).run Tryd.prog (w2.alloc (.cells #[.int .i64 y] 3)) = .ok u' w3 ∧ ReI w base p n c g bm (.slice (some ⟨q, 0, none⟩) m cap) m A T D (FJ g bm (.slice (some ⟨q, 0, none⟩) m cap) Fc) t (k + 1) u' w3) := fun w2 Fc' L' s2 j2 a2 l2 => by
            have s3 := (Ca.Sv.of_gr (F := FJ g bm (.slice (some ⟨q, 0, none⟩) m cap) Fc1) (Ke.refl _ wr).drew).trans s2
            exact rei_step RI.out.row nf sv hA hr hidk s3 j2 a2 l2 hk4
          clear a1 lk1 sv nf hA ST BG SK hr hidk
          go_wp2_with fail
          refine C.out.mono ?_
          rintro e w1 ⟨rfl, hw⟩
          obtain rfl := hw
          clear C
          go_wp2_with fail
          refine RD.out.mono ?_
          rintro e w1 ⟨rfl, hw⟩
          obtain rfl := hw
          clear RD
          go_wp2_with fail
          refine B1.out.mono ?_
          rintro e w1 ⟨rfl, K1, j1, AW⟩
          have AW1 := Lib.hid AW
          clear B1 K1 j1 AW
          go_wp2_with fail
          refine AW1.out.mono ?_
          rintro e w2 ⟨rfl, Fc2, L2, j2, a2, l2, s2⟩
          obtain ⟨u', w3, hrun, NX⟩ := STP.out w2 Fc2 L2 s2 j2 a2 l2
          have HR := Lib.hid hrun
          have NN := Lib.hid NX
          clear AW1 STP j2 a2 l2 s2 hrun NX
          go_wp2_with (at_builtin; refine Lib.wpList_append_run _ rfl _ _ 42 42 rfl _ _ rfl rfl _ _ HR.out ?_)
          go_roundg (m - (k + 1))
          case measure => omega
          case rel => exact ⟨k + 1, _, rfl, by go_num, by omega, Nat.le_refl _, NN.out⟩
    · have hltz : ¬ (k : Int) < (m : Int) := by omega
      obtain rfl : m = k := by omega
      have E := Lib.hid (rei_end RI.out HA.out HS.out HX.out.tk hm4)
      clear ST RI
      go_wp2_with fail
      refine E.out.mono ?_
      rintro e w1 ⟨rfl, Q⟩
      have QQ := Lib.hid Q
      clear E Q
      go_wp2_with fail
      go_ret
      exact QQ.out
theorem release_jb (h : Jb w base p n c F S) (h0 : 0 ≤ t) (ht : t ≤ 1000000000000) (hc : c + n ≤ 65535) :
    Calls Tryd.prog 19 #[.pointer (some ⟨p, 0, none⟩), .int .i64 t] w fun e w' => RelQ w base p n c F S t e w' := by
  obtain ⟨g, bm, v, m, A, T, D, Fc, L, hx, a, sl, lk, rfl⟩ := h.ex
  rcases hx.row.shape with ⟨rfl, rfl⟩ | ⟨q, cap, rfl, _⟩
  · exact release_nil hx a sl lk t
  · exact release_some hx a sl lk h0 ht hc
end
end Go.Proofs.YtlpjojegdnconaaDoor
