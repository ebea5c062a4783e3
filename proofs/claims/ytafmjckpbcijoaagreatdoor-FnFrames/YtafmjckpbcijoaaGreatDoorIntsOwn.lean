/-
  Numbers read one behind another.
-/
import Derived.Test.YtafmjckpbcijoaaGreatDoorOwnInts
import Derived.Test.YtafmjckpbcijoaaGreatDoorGround3
namespace Go.Proofs.YtafmjckpbcijoaaGreatDoor
open Go.RowKit
set_option linter.unusedVariables false

/-- k numbers, one behind another -/
def numsK (s : RSt) : Nat → List Int × RSt
  | 0 => ([], s)
  | k + 1 => ((numsK s k).1 ++ [((rdNum (numsK s k).2).1 : Int)], (rdNum (numsK s k).2).2)
theorem numsK_len (s : RSt) (k : Nat) : (numsK s k).1.length = k := by
  induction k with
  | zero => rfl
  | succ k ih => rw [numsK, List.length_append, ih]; rfl
end Go.Proofs.YtafmjckpbcijoaaGreatDoor
