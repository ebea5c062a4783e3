/-
  laws.eqCmd at equal commands.
-/
import Derived.Test.YtabnanmfojppjaaDoorBasic
namespace Go.Proofs.YtabnanmfojppjaaDoor
open Go.RowKit
set_option linter.unusedVariables false

theorem eqCmd_same (cl sq op : Int) (k v o : ByteArray) (w : World) :
    Calls Tryd.prog 63 #[.agg #[.int .i64 cl, .int .i64 sq, .int .i64 op, .string k, .string v, .string o], .agg #[.int .i64 cl, .int .i64 sq, .int .i64 op, .string k, .string v, .string o]] w fun r w' =>
      r = .returned (.bool true) ∧ Below w.heap.size w w' := by
  go_enter Tryd.func63, Tryd.ntmps63
  go_wp2
  go_ret
  exact ⟨rfl, ((Below.refl _ _).alloc (Nat.le_refl _) _).alloc (by simp) _⟩
end Go.Proofs.YtabnanmfojppjaaDoor
