/- The law SlotsBoth of package evenhandedlaw5 answers true for every input: whatever comes and goes, ids and slots agree both ways. Condition: the library's table math/bits.deBruijn64tab is as the program's text lays it (the card ties it). -/
import Derived.Test.YtfhnjknlehecgaaDoorB5
import Derived.Test.YtfhnjknlehecgaaDoorS5
import Derived.Test.YtfhnjknlehecgaaDoorCards
import Derived.Test.YtfhnjknlehecgaaDoorTie
namespace Go.Proofs.YtfhnjknlehecgaaDoor.slotsBoth
open Go.ChangeShapes Go.WideShapes Go.ChangeAt Go.RowKit
set_option linter.unusedVariables false

theorem laidOut : laidOutB Tryd.prog = true := by kernel_rfl
theorem readable41 : Tryd.prog.readableRec 41 = true := by kernel_rfl
theorem lt41 : 41 < Tryd.prog.types.size := of_decide_eq_true (by kernel_rfl)

theorem u8_nat {n : Int} (h : (Lit.int .u8 n).wf = true) : ∃ m : Nat, n = m ∧ m < 256 := by
  have : 0 ≤ n ∧ n ≤ 255 := by
    have e1 : IntKind.u8.min = 0 := by decide
    have e2 : IntKind.u8.max = 255 := by decide
    simp [Lit.wf, e1, e2] at h
    omega
  exact ⟨n.toNat, by omega, by omega⟩

/-- The bytes that came in. -/
def Bytes (w : World) (a : Option Addr) (n : Nat) : Prop := n = 0 ∨ ∃ (b off : Nat) (q : List Nat), a = some ⟨b, off, none⟩ ∧ q.length = n ∧ b < w.heap.size ∧ ∀ i (h : i < q.length), q[i] < 256 ∧ w.cell? ⟨b, off + i, none⟩ = some (.int .u8 (q[i] : Nat))

theorem open_bytes {H : Type} {enc : TypeId × Value → H} {w : World} {r : Reach} {b0 : Nat} {v : Value} {d : DataW H} {p : List MemPlace} (hv : Value.okWide Tryd.prog w r b0 41 v) (h : DataW.Trod enc Tryd.prog w 0 (fun _ => true) true 41 v d p) :
    ∃ a n cap, v = .slice a n cap ∧ Bytes w a n := by
  obtain ⟨a0, n0, c0, rfl⟩ := okWide_slice Tryd.underlying41 hv
  refine ⟨a0, n0, c0, rfl, ?_⟩
  obtain ⟨fuel, hf⟩ := h
  rcases open_ints Tryd.underlying41 Tryd.underlying5 cells5 hf with ⟨hc, _⟩ | ⟨a, len, cap, zs, hc, _, hl, hm, hz, _, hcell, hwf⟩
  · simp [Value.cells] at hc
    exact Or.inl hc.2.1
  · simp [Value.cells] at hc
    obtain ⟨rfl, rfl, rfl⟩ := hc
    rcases Nat.eq_zero_or_pos n0 with h0 | h0
    · exact Or.inl h0
    · have hz' : zs.length = c0 := by simpa using hz
      have g0 := hcell 0 (by omega)
      have hsp : a.spot = none := World.cell?_spot (by simpa [Addr.add] using g0)
      have hlt : a.block < w.heap.size := by
        have := lt_of_cell g0
        simpa [Addr.add] using this
      obtain ⟨b, off, sp⟩ := a
      simp only at hsp hlt
      subst hsp
      refine Or.inr ⟨b, off, (zs.take n0).map Int.toNat, rfl, by simp; omega, hlt, fun i hi => ?_⟩
      have hi' : i < n0 := by simp at hi; omega
      have hiz : i < zs.length := by omega
      obtain ⟨m, e, hm⟩ := u8_nat (hwf zs[i] (List.getElem_mem hiz))
      have c := hcell i hiz
      rw [show zs.getD i 0 = zs[i] by simp [List.getD, hiz]] at c
      have ea : (⟨b, off, none⟩ : Addr).add i = ⟨b, off + i, none⟩ := by unfold Addr.add; split <;> simp_all
      rw [ea, e] at c
      simp only [List.getElem_map, List.getElem_take]
      rw [e]
      exact ⟨by simpa using hm, by simpa using c⟩

theorem walk (a : Option Addr) (n cap : Nat) (w : World) (h : Bytes w a n) (hT : Tab w) :
    Calls Tryd.prog 6 #[.slice a n cap] w fun e w' => e = .returned (.bool true) ∧ Below w.heap.size w w' := by
  rcases h with rfl | ⟨b, off, q, rfl, hq, hb, hc⟩
  · exact both_none a cap w hT
  · by_cases h1 : 200 < n
    · exact both_big _ n cap w h1 hT
    · exact both_walk b off n cap q w hq (by omega) hb hc hT

set_option maxRecDepth 100000 in
theorem lifted (os : Os) (started : os.Started) (H : Type) (enc : TypeId × Value → H) :
    ReturnsInHanded {} Tryd.checked os 6 .any (fun w args => (Rows.slotsBothSpec.pre enc Tryd.prog Tryd.f6 [] false w args ∧ laidMetH Tryd.prog laidL w) ∧ sizedMet enc Tryd.prog Tryd.f6 (OpenSpec.ofChange Rows.slotsBothSpec) false w args)
      (Rows.slotsBothSpec.post enc Tryd.prog Tryd.f6 false true false false) := by
  refine returnsInHanded_of_change_and (C := Tryd.checked) (X := fun w _ => laidMetH Tryd.prog laidL w) (fun _ _ _ hh h => h.of_heap hh) own started (by kernel_rfl) Tryd.func6
    (ChangeSpec.witness_shaped (enc := enc) (C := Tryd.checked) (os := os) (X := fun w _ => laidMetH Tryd.prog laidL w) false (World.doorLaid Tryd.prog 400 os) #[.slice none 0 0] 8 rfl (World.shaped_of_RefB (by kernel_rfl) (by kernel_rfl)) (by kernel_rfl) (by kernel_rfl) (by kernel_rfl) (door_met os _)) ?_
  intro W base args ds gs before hval0 hW _ _ hL _
  have hval : ∀ (j : Nat) t v, Tryd.f6.params[j]? = some t → args[j]? = some v → Value.okWide Tryd.prog W .any base t v := hval0
  have hW' := hW
  have hlt := fun x hx => hW.lt x hx
  obtain ⟨p, q, hA0, hV, rfl, hfz, hnd⟩ := hW
  have hA : DataW.TrodAll enc Tryd.prog W 0 (fun _ => true) true Tryd.f6.params.toList args.toList ds p := hA0
  rw [Tryd.params6] at hA hval
  obtain ⟨v0, d0, rfl, rfl, h0⟩ := trodAll_one hA
  obtain ⟨rfl, rfl⟩ := trodVars_none hV
  obtain ⟨a, n, cap, rfl, hcase⟩ := open_bytes (hval 0 41 v0 rfl rfl) h0
  clear hA0 hval0
  simp only [List.append_nil] at hW' hlt
  refine (walk a n cap W hcase (tab_of_laid hL)).mono fun e W' ⟨he, hg⟩ => ?_
  subst he
  exact ⟨_, rfl, _, _, _, [], p, [], hW', trodAll_cons_mk (shut_bool Tryd.underlying4 _) trodAll_mk0, trodAll_mk1 (hg.trod laidOut readable41 lt41 h0 hlt), rfl, hg.frame _, fun h => by cases h⟩

theorem over : Rows.SlotsBothSaid :=
  OpenClaim.holds_of_wide 6 Tryd.f6 rfl rfl rfl rfl rfl rfl rfl ⟨rfl, rfl, rfl, rfl, rfl⟩ rfl rfl rfl rfl rfl (by kernel_rfl) Tryd.func6 (by kernel_rfl)
    (of_decide_eq_true (by kernel_rfl)) (by unfold Func.isWrapper; first | (rw [if_pos (by decide +kernel)]; kernel_rfl) | (rw [if_neg (by decide +kernel)]; exact ⟨rfl, rfl⟩))
    (fun os started H enc _ => lifted os started H enc)

/-- ████ THE STATEMENT: the tied card ████ -/
theorem proved : Rows.SlotsBothCardSaid :=
  Claim7.holds_tied_plain_at .later [] [.data] true (true, "eaf78713707694d305d0bd30a6f95ab27cba766791087ca7d3ca370b98e93d3e") false
    over (fun _ h => by cases h) (by kernel_rfl) (fun _ h => by cases h) slotsBoth_row_tie rfl ⟨rfl, rfl⟩ (by kernel_rfl) rfl
    (fun f fn hf hfn => by
      obtain rfl : f = 6 := Option.some.inj ((show Tryd.prog.funcNamed "evenhanded/evenhandedlaw5.SlotsBoth" = some 6 by kernel_rfl).symm.trans hf) |>.symm
      obtain rfl : fn = Tryd.f6 := (Option.some.inj (Tryd.func6.symm.trans hfn)).symm
      exact ⟨by kernel_rfl, fun j t ht => by
        rw [Tryd.params6] at ht
        have h3 : t = 41 := by
          rcases j with _ | j
          · simpa using ht.symm
          · simp at ht
        subst h3
        exact (show Tryd.prog.wantsStandIn 41 = false by kernel_rfl)⟩)
    (by kernel_rfl)
#print axioms proved
end Go.Proofs.YtfhnjknlehecgaaDoor.slotsBoth
