/- The calendar: contract of Drop. -/
import Derived.Test.YtkpflhlalpkgnaaL8
namespace Go.Proofs.Ytkpflhlalpkgnaa
open Go.RowKit Go.Lib Go.Maps
set_option linter.unusedVariables false

/-- Those that are not dropped. -/
def rest (i : Int) (L : List Ky) : List Ky := L.filter (fun x => decide (x.2 ≠ i))

/-- What is first of an id. -/
def FstOf (M : Nat → Option Rk) (i : Int) (m : Nat) : Prop := (m = 0 ∧ ∀ s r, M s = some r → r.i ≠ i) ∨ (m ≠ 0 ∧ ∃ r, M m = some r ∧ r.i = i)
section
variable {w : World} {base p c : Nat} {F : Nat → Prop} {n : Nat} {M : Nat → Option Rk}
theorem cal_first (h : Cal w base p c F n M) (i : Int) (hi : (Lit.int .i64 i).wf = true) :
    ∃ m : Nat, FstOf M i m ∧ Calls Try.prog 20 #[.pointer (some ⟨p, 0, none⟩), .int .i64 i] w fun e w' => e = .returned (.int .i64 m) ∧ w' = w := by
  have hc : ∃ Fc, Chn w base p c Fc (ownOf M) := by
    rcases h with ⟨h, rfl, rfl⟩ | ⟨Fc, F0, F1, g, cap, p0, p1, o, h, t, rfl⟩
    · exact ⟨_, h.ch⟩
    · exact ⟨_, h.ch⟩
  obtain ⟨Fc, ch⟩ := hc
  by_cases e : ∃ m, ownOf M m = some i
  · obtain ⟨m0, hm0⟩ := e
    obtain ⟨m, hm, C⟩ := chn_first_some ch i hi hm0
    obtain ⟨r, hr, hi'⟩ := ownOf_some hm
    refine ⟨m, .inr ⟨?_, r, hr, hi'⟩, C⟩
    have := (ch.mark hm).1
    omega
  · refine ⟨0, .inl ⟨rfl, fun s r hs q => e ⟨s, ?_⟩⟩, chn_first_none ch i hi (fun m q => e ⟨m, q⟩)⟩
    unfold ownOf
    rw [hs, ← q]
    rfl

/-- One mark of the id goes: what the round calls. -/
structure DrB (w : World) (base p c : Nat) (F : Nat → Prop) (n : Nat) (M : Nat → Option Rk) (m : Nat) (i : Int) : Prop where
  ex : ∃ g cap p0, w.cell? ⟨p, 3, none⟩ = some (.slice (some ⟨g, 0, none⟩) 1 cap) ∧ w.cell? ⟨g, 0, none⟩ = some (.pointer (some ⟨p0, 0, none⟩)) ∧
    Calls Try.prog 21 #[.pointer (some ⟨p0, 0, none⟩), .int .i64 m] w fun e w1 => e = .returned (.bool true) ∧
      Calls Try.prog 18 #[.pointer (some ⟨p, 0, none⟩), .int .i64 0] w1 fun e w2 => e = .returned (.tuple #[]) ∧
        Calls Try.prog 22 #[.pointer (some ⟨p, 0, none⟩), .int .i64 m, .int .i64 i] w2 fun e w3 => e = .returned (.tuple #[]) ∧ PpP w base p c F n M m w3
theorem drop_body (h : Cal w base p c F (n + 1) M) (m : Nat) (r : Rk) (hm : M m = some r) : DrB w base p c F n M m r.i := by
  rcases h with ⟨h, q, rfl⟩ | ⟨Fc, F0, F1, g, cap, p0, p1, o, h, t, rfl⟩
  · omega
  · refine ⟨g, cap, p0, h.c3, h.cg, ?_⟩
    refine (st_drop h.s0 m r hm).mono ?_
    rintro e w1 ⟨rfl, s1, k1⟩
    have v1 : Sv F0 F0 w w1 := ⟨k1, fun _ q => .inl q⟩
    refine ⟨rfl, (refresh_any (h.step0 s1 v1)).mono ?_⟩
    rintro e w2 ⟨rfl, q⟩
    obtain ⟨F1', o', c2, t2, v2⟩ := q.ex
    refine ⟨rfl, (chn_remove c2.ch r.i (m := m) (by unfold ownOf; rw [hm]; rfl)).mono ?_⟩
    rintro e w3 ⟨rfl, q3⟩
    have v3 : Sv Fc Fc w2 w3 := ⟨q3.ke, fun _ q => .inl q⟩
    have c3 := c2.stepC q3.ch v3 q3.rest
    rw [← ownOf_drop] at c3
    exact ⟨rfl, ⟨_, .inr ⟨_, _, _, _, _, _, _, _, c3, t2, rfl⟩, ((sv_0 v1).trans (sv_1 v2)).trans (sv_C v3)⟩⟩
end

/-- Drop on its way: k are gone. -/
structure DrI (w : World) (base p c : Nat) (F : Nat → Prop) (L : List Ky) (i : Int) (k : Nat) (R : List Ky) (M : Nat → Option Rk) (w' : World) : Prop where
  ex : ∃ F', Cal w' base p c F' R.length M ∧ Sv F F' w w'
  rep : Rep M R
  fil : rest i R = rest i L
  len : R.length + k = L.length

theorem dr_step {w wr w3 : World} {base p c : Nat} {F F1 : Nat → Prop} {L R : List Ky} {i : Int} {k m : Nat} {M : Nat → Option Rk} {r : Rk} (h : DrI w base p c F L i k R M wr) (s1 : Sv F F1 wr wr ∨ Sv F F1 w wr) (hs : Sv F F1 w wr) (hm : M m = some r) (hi : r.i = i) (n : Nat) (hn : R.length = n + 1) (q : PpP wr base p c F1 n M m w3) :
    ∃ R', DrI w base p c F L i (k + 1) R' (upd M m none) w3 ∧ R'.length + 1 = R.length := by
  have hx : (r.d, r.i) ∈ R := h.rep.mem hm
  have hp := List.perm_cons_erase hx
  have hl : (R.erase (r.d, r.i)).length = n := by rw [List.length_erase_of_mem hx, hn]; rfl
  obtain ⟨F2, c2, s2⟩ := q.ex
  refine ⟨R.erase (r.d, r.i), ⟨⟨F2, by rw [hl]; exact c2, hs.trans s2⟩, h.rep.drop hm (h.rep.srt.sublist List.erase_sublist) hp, ?_, ?_⟩, by omega⟩
  · rw [← h.fil]
    exact filter_erase_no (by simp [hi]) R
  · have := h.len; omega
theorem dr_done {w w' : World} {base p c : Nat} {F : Nat → Prop} {L R : List Ky} {i : Int} {k : Nat} {M : Nat → Option Rk} (h : DrI w base p c F L i k R M w') (hb : base ≤ w.heap.size) (hn : ∀ s r, M s = some r → r.i ≠ i) : Lv w base p c F (rest i L) w' ∧ k = L.length - (rest i L).length := by
  have e : rest i L = R := by
    rw [← h.fil]
    refine List.filter_eq_self.2 (fun x hx => ?_)
    obtain ⟨s, r, hs, rfl⟩ := h.rep.back hx
    simpa using hn s r hs
  obtain ⟨F', c', sv⟩ := h.ex
  rw [e]
  exact ⟨⟨F', ⟨⟨M, c', h.rep⟩, Nat.le_trans hb sv.ke.size⟩, sv⟩, by have := h.len; omega⟩

set_option maxHeartbeats 1000000 in
theorem cl_drop {w : World} {base p c : Nat} {F : Nat → Prop} {L : List Ky} (h : Cl w base p c F L) (hc : c ≤ 65535) (hl : L.length ≤ 1000000) (i : Int) (hi : (Lit.int .i64 i).wf = true) :
    Calls Try.prog 11 #[.pointer (some ⟨p, 0, none⟩), .int .i64 i] w fun e w' => e = .returned (.int .i64 ((L.length - (rest i L).length : Nat) : Int)) ∧ Lv w base p c F (rest i L) w' := by
  obtain ⟨M, cal, r⟩ := h.ex
  obtain ⟨m, fm, C⟩ := cal_first cal i hi
  have CC := Lib.hid C
  have I0 : Hid (DrI w base p c F L i 0 L M w) := ⟨⟨F, cal, Sv.refl _ _⟩, r, rfl, by omega⟩
  have FM := Lib.hid fm
  have HB := Lib.hid h.bs
  have HI := Lib.hid hi
  clear C cal r fm h hi
  go_enter Try.func11, Try.ntmps11
  go_wp2_with fail
  refine CC.out.mono ?_
  rintro e w1 ⟨rfl, hw⟩
  obtain rfl := hw.symm
  clear CC hw
  go_wp2_with fail
  go_loopg [5, 6] L.length (fun kx s5 s6 wr => ∃ (k : Nat) (R : List Ky) (M' : Nat → Option Rk) (mk : Nat), Aside (DrI w base p c F L i k R M' wr ∧ FstOf M' i mk) ∧ R.length ≤ kx ∧ s5 = .int .i64 k ∧ s6 = .int .i64 mk)
  case atStart => exact ⟨0, L, M, m, ⟨I0.out, FM.out⟩, Nat.le_refl _, rfl, rfl⟩
  case round =>
    obtain ⟨k, R, M', mk, hI, hk, rfl, rfl⟩ := hrel
    clear I0 FM
    rcases hI.out.2 with ⟨e0, hn⟩ | ⟨e0, r, hm, hri⟩
    · have DN := Lib.hid (dr_done hI.out.1 HB.out hn)
      rw [show (mk : Int) = 0 by omega]
      clear hn e0
      go_wp2
      go_ret
      exact ⟨by rw [← DN.out.2]; rfl, DN.out.1⟩
    · obtain ⟨F1, cal1, s1⟩ := hI.out.1.ex
      have hmk := cal1.mark hm
      have hR : ∃ n, R.length = n + 1 := by
        rcases Nat.eq_zero_or_pos R.length with e | e
        · rw [e] at cal1
          rw [cal1.zero mk] at hm
          cases hm
        · exact ⟨R.length - 1, by omega⟩
      obtain ⟨n, hn⟩ := hR
      rw [hn] at cal1
      obtain ⟨g, cap, p0, c3, cg, B⟩ := (drop_body cal1 mk r hm).ex
      rw [hri] at B
      have BB := Lib.hid B
      have S1 := Lib.hid s1
      have HM := Lib.hid hm
      have HRI := Lib.hid hri
      have hmk6 : mk < 65536 := by omega
      have PL := Lib.hid (place_any wr mk hmk6)
      have em : ((mk : Int) != 0) = true := by simp; omega
      have hlen := hI.out.1.len
      clear cal1 s1 hm hri B hmk
      go_wp2_with fail
      refine PL.out.mono ?_
      rintro e w2 ⟨rfl, hw⟩
      obtain rfl := hw.symm
      clear hw PL
      go_wp2_with fail
      refine BB.out.mono ?_
      rintro e w3 ⟨rfl, B3⟩
      have BB3 := Lib.hid B3
      clear BB B3 c3 cg
      go_wp2_with fail
      refine BB3.out.mono ?_
      rintro e w4 ⟨rfl, B4⟩
      have BB4 := Lib.hid B4
      clear BB3 B4
      go_wp2_with fail
      refine BB4.out.mono ?_
      rintro e w5 ⟨rfl, Q5⟩
      obtain ⟨R', hI', hl'⟩ := dr_step hI.out.1 (.inr S1.out) S1.out HM.out HRI.out n hn Q5
      obtain ⟨F5, cal5, _⟩ := hI'.ex
      obtain ⟨m5, fm5, C5⟩ := cal_first cal5 i HI.out
      have CC5 := Lib.hid C5
      have II := Lib.hid hI'
      have FF := Lib.hid fm5
      clear BB4 Q5 hI' cal5 fm5 C5
      go_wp2_with fail
      refine CC5.out.mono ?_
      rintro e w6 ⟨rfl, hw⟩
      obtain rfl := hw.symm
      clear hw CC5
      go_wp2_with fail
      go_roundg R'.length
      case measure => omega
      case rel => exact ⟨k + 1, R', _, m5, ⟨II.out, FF.out⟩, Nat.le_refl _, by go_num, rfl⟩
end Go.Proofs.Ytkpflhlalpkgnaa
