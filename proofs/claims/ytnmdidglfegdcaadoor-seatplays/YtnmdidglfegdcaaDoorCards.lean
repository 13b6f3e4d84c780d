/-
  DERIVED. GIVEN WITH THE SEED: THE CARDS: each row of YtnmdidglfegdcaaDoorRows.lean that lists a variable, with what it lists TIED to the program's text (the seventh form; the later family's looks); each row that meets fmt, with fmt's text TOLD by the authors' own Lean function (tested against real Go, not proved from fmt's source: count such statements apart). THE CARD IS WHAT COUNTS. Prove the row's statement (the work); the ties are given (YtnmdidglfegdcaaDoorTie.lean); close each card by the builder's one call (the guide's Derived/Test/ToyasCard.lean, 'card_holds'). Laid BY PROGRAM, IN A SANDBOX (cutbox-door.mjs). By AI agents, Wed Nov 11 2026. No macro, syntax, notation, axiom, sorry.
-/
import Derived.Test.YtnmdidglfegdcaaDoorRows
import GoSem.ClaimSeven
namespace Go.Proofs.YtnmdidglfegdcaaDoor
namespace Rows

/-- THE TIED CARD OF 'evenhandedlaw14.SeatPlays'. -/
def seatPlaysCard : Claim7 := { stood := { row := seatPlaysRow, standIns := [], harness := (true, "c4600964e4bdda8592b0d93be4c0abefb093dce3be78cfba91cea62973304a82"), looks := false }, kinds := [], alts := [], laidByText := true, laidKinds := [.data], laidTests := true, laidLooks := .later }
def SeatPlaysCardSaid : Prop := Claim7.holds Tryd.pinned (.plain (OpenSpec.ofChange seatPlaysSpec)) seatPlaysCard

/-- THE TIED CARD OF 'evenhandedlaw14.SeatStays'. -/
def seatStaysCard : Claim7 := { stood := { row := seatStaysRow, standIns := [], harness := (true, "c4600964e4bdda8592b0d93be4c0abefb093dce3be78cfba91cea62973304a82"), looks := false }, kinds := [], alts := [], laidByText := true, laidKinds := [.data], laidTests := true, laidLooks := .later }
def SeatStaysCardSaid : Prop := Claim7.holds Tryd.pinned (.plain (OpenSpec.ofChange seatStaysSpec)) seatStaysCard

/-- THE TIED CARD OF 'evenhandedlaw14.SeatKnown'. -/
def seatKnownCard : Claim7 := { stood := { row := seatKnownRow, standIns := [], harness := (true, "c4600964e4bdda8592b0d93be4c0abefb093dce3be78cfba91cea62973304a82"), looks := false }, kinds := [], alts := [], laidByText := true, laidKinds := [.data], laidTests := true, laidLooks := .later }
def SeatKnownCardSaid : Prop := Claim7.holds Tryd.pinned (.plain (OpenSpec.ofChange seatKnownSpec)) seatKnownCard

/-- THE TIED CARD OF 'evenhandedlaw14.SeatBack'. -/
def seatBackCard : Claim7 := { stood := { row := seatBackRow, standIns := [], harness := (true, "c4600964e4bdda8592b0d93be4c0abefb093dce3be78cfba91cea62973304a82"), looks := false }, kinds := [], alts := [], laidByText := true, laidKinds := [.data], laidTests := true, laidLooks := .later }
def SeatBackCardSaid : Prop := Claim7.holds Tryd.pinned (.plain (OpenSpec.ofChange seatBackSpec)) seatBackCard

/-- THE TIED CARD OF 'evenhandedlaw14.SeatOrders'. -/
def seatOrdersCard : Claim7 := { stood := { row := seatOrdersRow, standIns := [], harness := (true, "c4600964e4bdda8592b0d93be4c0abefb093dce3be78cfba91cea62973304a82"), looks := false }, kinds := [], alts := [], laidByText := true, laidKinds := [.data], laidTests := true, laidLooks := .later }
def SeatOrdersCardSaid : Prop := Claim7.holds Tryd.pinned (.plain (OpenSpec.ofChange seatOrdersSpec)) seatOrdersCard

/-- THE SECOND FORM's CARD OF 'evenhandedlaw14.SeatPlays'. -/
def seatPlaysUptoCard : Claim7 := { stood := { row := seatPlaysUptoRow, standIns := [], harness := (true, "c4600964e4bdda8592b0d93be4c0abefb093dce3be78cfba91cea62973304a82"), looks := false }, kinds := [], alts := [], laidByText := true, laidKinds := [.data], laidTests := true, laidLooks := .later }
def SeatPlaysUptoCardSaid : Prop := Claim7.holds Tryd.pinned (.plain (OpenSpec.upto seatPlaysSpec)) seatPlaysUptoCard

/-- THE SECOND FORM's CARD OF 'evenhandedlaw14.SeatStays'. -/
def seatStaysUptoCard : Claim7 := { stood := { row := seatStaysUptoRow, standIns := [], harness := (true, "c4600964e4bdda8592b0d93be4c0abefb093dce3be78cfba91cea62973304a82"), looks := false }, kinds := [], alts := [], laidByText := true, laidKinds := [.data], laidTests := true, laidLooks := .later }
def SeatStaysUptoCardSaid : Prop := Claim7.holds Tryd.pinned (.plain (OpenSpec.upto seatStaysSpec)) seatStaysUptoCard

/-- THE SECOND FORM's CARD OF 'evenhandedlaw14.SeatKnown'. -/
def seatKnownUptoCard : Claim7 := { stood := { row := seatKnownUptoRow, standIns := [], harness := (true, "c4600964e4bdda8592b0d93be4c0abefb093dce3be78cfba91cea62973304a82"), looks := false }, kinds := [], alts := [], laidByText := true, laidKinds := [.data], laidTests := true, laidLooks := .later }
def SeatKnownUptoCardSaid : Prop := Claim7.holds Tryd.pinned (.plain (OpenSpec.upto seatKnownSpec)) seatKnownUptoCard

/-- THE SECOND FORM's CARD OF 'evenhandedlaw14.SeatBack'. -/
def seatBackUptoCard : Claim7 := { stood := { row := seatBackUptoRow, standIns := [], harness := (true, "c4600964e4bdda8592b0d93be4c0abefb093dce3be78cfba91cea62973304a82"), looks := false }, kinds := [], alts := [], laidByText := true, laidKinds := [.data], laidTests := true, laidLooks := .later }
def SeatBackUptoCardSaid : Prop := Claim7.holds Tryd.pinned (.plain (OpenSpec.upto seatBackSpec)) seatBackUptoCard

/-- THE SECOND FORM's CARD OF 'evenhandedlaw14.SeatOrders'. -/
def seatOrdersUptoCard : Claim7 := { stood := { row := seatOrdersUptoRow, standIns := [], harness := (true, "c4600964e4bdda8592b0d93be4c0abefb093dce3be78cfba91cea62973304a82"), looks := false }, kinds := [], alts := [], laidByText := true, laidKinds := [.data], laidTests := true, laidLooks := .later }
def SeatOrdersUptoCardSaid : Prop := Claim7.holds Tryd.pinned (.plain (OpenSpec.upto seatOrdersSpec)) seatOrdersUptoCard
end Rows
end Go.Proofs.YtnmdidglfegdcaaDoor
