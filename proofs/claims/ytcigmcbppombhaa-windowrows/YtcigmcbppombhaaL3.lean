/- What the loops of the laws on windows keep, round by round. -/
import Derived.Test.YtcigmcbppombhaaC2
import Derived.LoopTactic
namespace Go.Proofs.Ytcigmcbppombhaa
set_option linter.unusedVariables false
open Go.RowKit

/-- WindowLengths: the shortest and the longest of the windows so far are as long as they may be. -/
def Lens (e p : Int) (l m i : Value) : Prop :=
  ∃ L M k : Int, l = .int .i64 L ∧ m = .int .i64 M ∧ i = .int .i64 k ∧ 1 ≤ k ∧ k ≤ e + 1 ∧ cl p e ≤ L ∧ L ≤ p ∧ 0 ≤ M ∧ M ≤ cl p e + 1

/-- A counter that goes from 1 to e. -/
def Cnt (e : Int) (i : Value) : Prop := ∃ k : Int, i = .int .i64 k ∧ 1 ≤ k ∧ k ≤ e + 1

/-- WindowGroups: no row of windows has ended ahead of k. -/
def Grp (e p i : Int) (k : Value) (w wr : World) : Prop :=
  ∃ j : Int, k = .int .i64 j ∧ i ≤ j ∧ j ≤ e ∧ (j = i ∨ (i < j ∧ bt e p (j - 1) = 1 ∧ gp e p (j - 1) = gp e p i)) ∧ Grown w wr

end Go.Proofs.Ytcigmcbppombhaa
