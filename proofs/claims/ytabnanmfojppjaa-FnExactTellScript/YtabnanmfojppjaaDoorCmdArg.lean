/-
  laws.toCmd, laws.szCmd.
-/
import Derived.Test.YtabnanmfojppjaaDoorBasic
namespace Go.Proofs.YtabnanmfojppjaaDoor
open Go.RowKit
set_option linter.unusedVariables false

/-- laws.toCmd: the same fields. -/
theorem toCmd_any (cl sq op : Int) (k v o : ByteArray) (w : World) :
    Calls Tryd.prog 54 #[.agg #[.int .i64 cl, .int .i64 sq, .int .i64 op, .string k, .string v, .string o]] w fun e w' =>
      e = .returned (.agg #[.int .i64 cl, .int .i64 sq, .int .i64 op, .string k, .string v, .string o]) ∧ Below w.heap.size w w' := by
  go_enter Tryd.func54, Tryd.ntmps54
  go_wp2
  exact bodyPost_ret (v := .agg #[.int .i64 cl, .int .i64 sq, .int .i64 op, .string k, .string v, .string o]) (by simp [results, Tryd.results54, go_sem]) rfl
    ⟨rfl, (((Below.refl _ _).alloc (Nat.le_refl _) _).alloc (by simp) _).alloc (by simp; omega) _⟩

/-- laws.szCmd: what is left, or -1. -/
def szC (k v o left : Int) : Int := if left - k < 0 then -1 else if left - k - v < 0 then -1 else if left - k - v - o < 0 then -1 else left - k - v - o
theorem szCmd_any (cl sq op : Int) (k v o : ByteArray) (left : Int) (hl : 0 ≤ left) (hl' : left ≤ 1048576) (hk : k.size ≤ maxLen) (hv : v.size ≤ maxLen) (ho : o.size ≤ maxLen) (w : World) :
    Calls Tryd.prog 50 #[.agg #[.int .i64 cl, .int .i64 sq, .int .i64 op, .string k, .string v, .string o], .int .i64 left] w fun e w' =>
      e = .returned (.int .i64 (szC k.size v.size o.size left)) ∧ Below w.heap.size w w' := by
  unfold maxLen at hk hv ho
  unfold szC
  go_enter Tryd.func50, Tryd.ntmps50
  go_wp2
  all_goals go_ret
  all_goals refine ⟨?_, (Below.refl _ _).alloc (Nat.le_refl _) _⟩
  all_goals simp [*]

end Go.Proofs.YtabnanmfojppjaaDoor
