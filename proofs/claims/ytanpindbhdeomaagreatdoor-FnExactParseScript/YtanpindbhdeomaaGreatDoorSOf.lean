/-
  A text as the list of its bytes.
-/
import Derived.Test.YtanpindbhdeomaaGreatDoorGround
namespace Go.Proofs.YtanpindbhdeomaaGreatDoor
open Go.RowKit
set_option linter.unusedVariables false
set_option linter.unusedSimpArgs false

def sOf (l : List UInt8) : ByteArray := ⟨l.toArray⟩
theorem sOf_size (l : List UInt8) : (sOf l).size = l.length := by show l.toArray.size = _; simp
theorem sOf_app (a b : List UInt8) : sOf a ++ sOf b = sOf (a ++ b) := by unfold sOf; simp [ByteArray.mk_append_mk]
theorem sOf_list (t : ByteArray) : sOf t.data.toList = t := by obtain ⟨⟨l⟩⟩ := t; rfl
theorem list_sOf (l : List UInt8) : (sOf l).data.toList = l := by unfold sOf; simp
end Go.Proofs.YtanpindbhdeomaaGreatDoor
