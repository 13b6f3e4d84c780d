/-
  DERIVED. GIVEN WITH THE SEED: THE CARDS: each row of YtfhnjknlehecgaaDoorRows.lean that lists a variable, with what it lists TIED to the program's text (the seventh form; the later family's looks); each row that meets fmt, with fmt's text TOLD by the authors' own Lean function (tested against real Go, not proved from fmt's source: count such statements apart). THE CARD IS WHAT COUNTS. Prove the row's statement (the work); the ties are given (YtfhnjknlehecgaaDoorTie.lean); close each card by the builder's one call (the guide's Derived/Test/ToyasCard.lean, 'card_holds'). Laid BY PROGRAM, IN A SANDBOX (cutbox-door.mjs). By AI agents, Wed Nov 11 2026. No macro, syntax, notation, axiom, sorry.
-/
import Derived.Test.YtfhnjknlehecgaaDoorRows
import GoSem.ClaimSeven
namespace Go.Proofs.YtfhnjknlehecgaaDoor
namespace Rows

/-- THE TIED CARD OF 'evenhandedlaw5.SlotsPlay'. -/
def slotsPlayCard : Claim7 := { stood := { row := slotsPlayRow, standIns := [], harness := (true, "eaf78713707694d305d0bd30a6f95ab27cba766791087ca7d3ca370b98e93d3e"), looks := false }, kinds := [], alts := [], laidByText := true, laidKinds := [.data], laidTests := true, laidLooks := .later }
def SlotsPlayCardSaid : Prop := Claim7.holds Tryd.pinned (.plain (OpenSpec.ofChange slotsPlaySpec)) slotsPlayCard

/-- THE TIED CARD OF 'evenhandedlaw5.SlotsFill'. -/
def slotsFillCard : Claim7 := { stood := { row := slotsFillRow, standIns := [], harness := (true, "eaf78713707694d305d0bd30a6f95ab27cba766791087ca7d3ca370b98e93d3e"), looks := false }, kinds := [], alts := [], laidByText := true, laidKinds := [.data], laidTests := true, laidLooks := .later }
def SlotsFillCardSaid : Prop := Claim7.holds Tryd.pinned (.plain (OpenSpec.ofChange slotsFillSpec)) slotsFillCard

/-- THE TIED CARD OF 'evenhandedlaw5.SlotsKnown'. -/
def slotsKnownCard : Claim7 := { stood := { row := slotsKnownRow, standIns := [], harness := (true, "eaf78713707694d305d0bd30a6f95ab27cba766791087ca7d3ca370b98e93d3e"), looks := false }, kinds := [], alts := [], laidByText := true, laidKinds := [.data], laidTests := true, laidLooks := .later }
def SlotsKnownCardSaid : Prop := Claim7.holds Tryd.pinned (.plain (OpenSpec.ofChange slotsKnownSpec)) slotsKnownCard

/-- THE TIED CARD OF 'evenhandedlaw5.SlotsBoth'. -/
def slotsBothCard : Claim7 := { stood := { row := slotsBothRow, standIns := [], harness := (true, "eaf78713707694d305d0bd30a6f95ab27cba766791087ca7d3ca370b98e93d3e"), looks := false }, kinds := [], alts := [], laidByText := true, laidKinds := [.data], laidTests := true, laidLooks := .later }
def SlotsBothCardSaid : Prop := Claim7.holds Tryd.pinned (.plain (OpenSpec.ofChange slotsBothSpec)) slotsBothCard

/-- THE SECOND FORM's CARD OF 'evenhandedlaw5.SlotsPlay'. -/
def slotsPlayUptoCard : Claim7 := { stood := { row := slotsPlayUptoRow, standIns := [], harness := (true, "eaf78713707694d305d0bd30a6f95ab27cba766791087ca7d3ca370b98e93d3e"), looks := false }, kinds := [], alts := [], laidByText := true, laidKinds := [.data], laidTests := true, laidLooks := .later }
def SlotsPlayUptoCardSaid : Prop := Claim7.holds Tryd.pinned (.plain (OpenSpec.upto slotsPlaySpec)) slotsPlayUptoCard

/-- THE SECOND FORM's CARD OF 'evenhandedlaw5.SlotsFill'. -/
def slotsFillUptoCard : Claim7 := { stood := { row := slotsFillUptoRow, standIns := [], harness := (true, "eaf78713707694d305d0bd30a6f95ab27cba766791087ca7d3ca370b98e93d3e"), looks := false }, kinds := [], alts := [], laidByText := true, laidKinds := [.data], laidTests := true, laidLooks := .later }
def SlotsFillUptoCardSaid : Prop := Claim7.holds Tryd.pinned (.plain (OpenSpec.upto slotsFillSpec)) slotsFillUptoCard

/-- THE SECOND FORM's CARD OF 'evenhandedlaw5.SlotsKnown'. -/
def slotsKnownUptoCard : Claim7 := { stood := { row := slotsKnownUptoRow, standIns := [], harness := (true, "eaf78713707694d305d0bd30a6f95ab27cba766791087ca7d3ca370b98e93d3e"), looks := false }, kinds := [], alts := [], laidByText := true, laidKinds := [.data], laidTests := true, laidLooks := .later }
def SlotsKnownUptoCardSaid : Prop := Claim7.holds Tryd.pinned (.plain (OpenSpec.upto slotsKnownSpec)) slotsKnownUptoCard

/-- THE SECOND FORM's CARD OF 'evenhandedlaw5.SlotsBoth'. -/
def slotsBothUptoCard : Claim7 := { stood := { row := slotsBothUptoRow, standIns := [], harness := (true, "eaf78713707694d305d0bd30a6f95ab27cba766791087ca7d3ca370b98e93d3e"), looks := false }, kinds := [], alts := [], laidByText := true, laidKinds := [.data], laidTests := true, laidLooks := .later }
def SlotsBothUptoCardSaid : Prop := Claim7.holds Tryd.pinned (.plain (OpenSpec.upto slotsBothSpec)) slotsBothUptoCard
end Rows
end Go.Proofs.YtfhnjknlehecgaaDoor
