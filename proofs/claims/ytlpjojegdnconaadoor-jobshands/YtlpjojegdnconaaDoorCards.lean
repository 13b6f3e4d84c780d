/-
  DERIVED. GIVEN WITH THE SEED: THE CARDS: each row of YtlpjojegdnconaaDoorRows.lean that lists a variable, with what it lists TIED to the program's text (the seventh form; the later family's looks); each row that meets fmt, with fmt's text TOLD by the authors' own Lean function (tested against real Go, not proved from fmt's source: count such statements apart). THE CARD IS WHAT COUNTS. Prove the row's statement (the work); the ties are given (YtlpjojegdnconaaDoorTie.lean); close each card by the builder's one call (the guide's Derived/Test/ToyasCard.lean, 'card_holds'). Laid BY PROGRAM, IN A SANDBOX (cutbox-door.mjs). By AI agents, Wed Nov 11 2026. No macro, syntax, notation, axiom, sorry.
-/
import Derived.Test.YtlpjojegdnconaaDoorRows
import GoSem.ClaimSeven
namespace Go.Proofs.YtlpjojegdnconaaDoor
namespace Rows

/-- THE TIED CARD OF 'evenhandedlaw12.JobsPlay'. -/
def jobsPlayCard : Claim7 := { stood := { row := jobsPlayRow, standIns := [], harness := (true, "b9fc57ab5f1ac32a19b91723e8f3181397b16ad2c6c8c6eff3cea18c13434adb"), looks := false }, kinds := [], alts := [], laidByText := true, laidKinds := [.data], laidTests := true, laidLooks := .later }
def JobsPlayCardSaid : Prop := Claim7.holds Tryd.pinned (.plain (OpenSpec.ofChange jobsPlaySpec)) jobsPlayCard

/-- THE TIED CARD OF 'evenhandedlaw12.JobsKnown'. -/
def jobsKnownCard : Claim7 := { stood := { row := jobsKnownRow, standIns := [], harness := (true, "b9fc57ab5f1ac32a19b91723e8f3181397b16ad2c6c8c6eff3cea18c13434adb"), looks := false }, kinds := [], alts := [], laidByText := true, laidKinds := [.data], laidTests := true, laidLooks := .later }
def JobsKnownCardSaid : Prop := Claim7.holds Tryd.pinned (.plain (OpenSpec.ofChange jobsKnownSpec)) jobsKnownCard

/-- THE TIED CARD OF 'evenhandedlaw12.JobsCount'. -/
def jobsCountCard : Claim7 := { stood := { row := jobsCountRow, standIns := [], harness := (true, "b9fc57ab5f1ac32a19b91723e8f3181397b16ad2c6c8c6eff3cea18c13434adb"), looks := false }, kinds := [], alts := [], laidByText := true, laidKinds := [.data], laidTests := true, laidLooks := .later }
def JobsCountCardSaid : Prop := Claim7.holds Tryd.pinned (.plain (OpenSpec.ofChange jobsCountSpec)) jobsCountCard

/-- THE TIED CARD OF 'evenhandedlaw12.JobsHands'. -/
def jobsHandsCard : Claim7 := { stood := { row := jobsHandsRow, standIns := [], harness := (true, "b9fc57ab5f1ac32a19b91723e8f3181397b16ad2c6c8c6eff3cea18c13434adb"), looks := false }, kinds := [], alts := [], laidByText := true, laidKinds := [.data], laidTests := true, laidLooks := .later }
def JobsHandsCardSaid : Prop := Claim7.holds Tryd.pinned (.plain (OpenSpec.ofChange jobsHandsSpec)) jobsHandsCard

/-- THE TIED CARD OF 'evenhandedlaw12.JobsLeave'. -/
def jobsLeaveCard : Claim7 := { stood := { row := jobsLeaveRow, standIns := [], harness := (true, "b9fc57ab5f1ac32a19b91723e8f3181397b16ad2c6c8c6eff3cea18c13434adb"), looks := false }, kinds := [], alts := [], laidByText := true, laidKinds := [.data], laidTests := true, laidLooks := .later }
def JobsLeaveCardSaid : Prop := Claim7.holds Tryd.pinned (.plain (OpenSpec.ofChange jobsLeaveSpec)) jobsLeaveCard

/-- THE SECOND FORM's CARD OF 'evenhandedlaw12.JobsPlay'. -/
def jobsPlayUptoCard : Claim7 := { stood := { row := jobsPlayUptoRow, standIns := [], harness := (true, "b9fc57ab5f1ac32a19b91723e8f3181397b16ad2c6c8c6eff3cea18c13434adb"), looks := false }, kinds := [], alts := [], laidByText := true, laidKinds := [.data], laidTests := true, laidLooks := .later }
def JobsPlayUptoCardSaid : Prop := Claim7.holds Tryd.pinned (.plain (OpenSpec.upto jobsPlaySpec)) jobsPlayUptoCard

/-- THE SECOND FORM's CARD OF 'evenhandedlaw12.JobsKnown'. -/
def jobsKnownUptoCard : Claim7 := { stood := { row := jobsKnownUptoRow, standIns := [], harness := (true, "b9fc57ab5f1ac32a19b91723e8f3181397b16ad2c6c8c6eff3cea18c13434adb"), looks := false }, kinds := [], alts := [], laidByText := true, laidKinds := [.data], laidTests := true, laidLooks := .later }
def JobsKnownUptoCardSaid : Prop := Claim7.holds Tryd.pinned (.plain (OpenSpec.upto jobsKnownSpec)) jobsKnownUptoCard

/-- THE SECOND FORM's CARD OF 'evenhandedlaw12.JobsCount'. -/
def jobsCountUptoCard : Claim7 := { stood := { row := jobsCountUptoRow, standIns := [], harness := (true, "b9fc57ab5f1ac32a19b91723e8f3181397b16ad2c6c8c6eff3cea18c13434adb"), looks := false }, kinds := [], alts := [], laidByText := true, laidKinds := [.data], laidTests := true, laidLooks := .later }
def JobsCountUptoCardSaid : Prop := Claim7.holds Tryd.pinned (.plain (OpenSpec.upto jobsCountSpec)) jobsCountUptoCard

/-- THE SECOND FORM's CARD OF 'evenhandedlaw12.JobsHands'. -/
def jobsHandsUptoCard : Claim7 := { stood := { row := jobsHandsUptoRow, standIns := [], harness := (true, "b9fc57ab5f1ac32a19b91723e8f3181397b16ad2c6c8c6eff3cea18c13434adb"), looks := false }, kinds := [], alts := [], laidByText := true, laidKinds := [.data], laidTests := true, laidLooks := .later }
def JobsHandsUptoCardSaid : Prop := Claim7.holds Tryd.pinned (.plain (OpenSpec.upto jobsHandsSpec)) jobsHandsUptoCard

/-- THE SECOND FORM's CARD OF 'evenhandedlaw12.JobsLeave'. -/
def jobsLeaveUptoCard : Claim7 := { stood := { row := jobsLeaveUptoRow, standIns := [], harness := (true, "b9fc57ab5f1ac32a19b91723e8f3181397b16ad2c6c8c6eff3cea18c13434adb"), looks := false }, kinds := [], alts := [], laidByText := true, laidKinds := [.data], laidTests := true, laidLooks := .later }
def JobsLeaveUptoCardSaid : Prop := Claim7.holds Tryd.pinned (.plain (OpenSpec.upto jobsLeaveSpec)) jobsLeaveUptoCard
end Rows
end Go.Proofs.YtlpjojegdnconaaDoor
