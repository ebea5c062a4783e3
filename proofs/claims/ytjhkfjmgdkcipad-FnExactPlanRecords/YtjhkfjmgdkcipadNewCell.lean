/-
  A block that was just made.
-/
import Derived.Test.YtjhkfjmgdkcipadMarks
namespace Go.Proofs.Ytjhkfjmgdkcipad
open Go.RowKit

theorem cellNew (w : World) (cs : Array Value) (t : TypeId) (j : Nat) (v : Value) (h : cs[j]? = some v) : (w.alloc (.cells cs t)).cell? ⟨w.heap.size, j, none⟩ = some v := by simp [h]
theorem frozenNew (w : World) (cs : Array Value) (t : TypeId) (j : Nat) : (w.alloc (.cells cs t)).frozen? ⟨w.heap.size, j, none⟩ = false := by simp
theorem ltNew (w : World) (o : Obj) : w.heap.size < (w.alloc o).heap.size := by simp
end Go.Proofs.Ytjhkfjmgdkcipad
