/- What a law's row wants at its ends: the library's table out of the condition; a start that meets it; a row's last step where nothing that lay was turned. -/
import Derived.Test.YtnmdidglfegdcaaDoorA1
import Derived.Test.YtnmdidglfegdcaaDoorRows
import Derived.ProofKit
import Derived.LaidMore
import Derived.OpenShut
import Derived.Stop.Joined
import Derived.Lib.LaidTab
namespace Go.Proofs.YtnmdidglfegdcaaDoor
open Go.ChangeShapes Go.WideShapes Go.ChangeAt Go.RowKit
set_option linter.unusedVariables false

theorem own : ownKnob Tryd.prog.godebug = none := by kernel_rfl
theorem gT : Tryd.prog.globalNamed "math/bits.deBruijn64tab" = some 0 := by kernel_rfl
theorem gTType : (Tryd.prog.globals[0]?).map (·.type) = some 85 := by kernel_rfl
theorem cells85 : Tryd.prog.cellsOf 85 = 64 := by kernel_rfl
theorem cells5 : Tryd.prog.cellsOf 5 = 1 := by kernel_rfl

def laidL : List (String × DataW Unit) := [("math/bits.deBruijn64tab", Rows.laid_math_bits_deBruijn64tab)]
def tabZ : List Int := Lib.deBruijn64tab.map fun (j : Nat) => (j : Int)
theorem datum : (Rows.laid_math_bits_deBruijn64tab : DataW Unit) = Lib.tabData .u8 tabZ := by rfl

theorem door_met (os : Os) (args : Array Value) : laidMetH Tryd.prog laidL ((World.doorLaid Tryd.prog 400 os).forCall (fun _ _ => 0) ⟨#[], args, []⟩).memory :=
  laidMetH_of_parts3 (fuel := 8) (laidMet_of_run' 8 (by kernel_rfl) (by kernel_rfl)) (by kernel_rfl) (by kernel_rfl)

theorem tab_of_laid {W : World} (h : laidMetH Tryd.prog laidL W) : Tab W := by
  rw [MakeChecks.laidMetH_plain _ _ _ (by kernel_rfl)] at h
  unfold laidL at h
  rw [datum] at h
  have hT := Lib.tabIs_of_head gT gTType Tryd.underlying85 Tryd.underlying5 cells5 cells85 h
  intro j hj
  have := hT.cell gT j (by simp [tabZ, Lib.deBruijn64tab]; exact hj)
  rw [show tabZ.getD j 0 = (Lib.deBruijn64tab.getD j 0 : Int) by
    unfold tabZ
    have hl : j < Lib.deBruijn64tab.length := hj
    simp [List.getD, hl]] at this
  exact this
end Go.Proofs.YtnmdidglfegdcaaDoor
