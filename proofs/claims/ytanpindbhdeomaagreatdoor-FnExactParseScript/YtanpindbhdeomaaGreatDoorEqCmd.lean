/-
  laws.eqCmd at equal commands.
-/
import Derived.Test.YtanpindbhdeomaaGreatDoorGround
namespace Go.Proofs.YtanpindbhdeomaaGreatDoor
open Go.RowKit
set_option linter.unusedVariables false

theorem eqCmd_same (cl sq op : Int) (k v o : ByteArray) (w : World) :
    Calls Tryz.prog 69 #[.agg #[.int .i64 cl, .int .i64 sq, .int .i64 op, .string k, .string v, .string o], .agg #[.int .i64 cl, .int .i64 sq, .int .i64 op, .string k, .string v, .string o]] w fun r w' =>
      r = .returned (.bool true) ∧ Below w.heap.size w w' := by
  go_enter Tryz.func69, Tryz.ntmps69
  go_wp2
  go_ret
  exact ⟨rfl, ((Below.refl _ _).alloc (Nat.le_refl _) _).alloc (by simp) _⟩
end Go.Proofs.YtanpindbhdeomaaGreatDoor
