/-
  Bytes that the call lays itself: one, none.
-/
import Derived.Test.YtabnanmfojppjaaDoorOwn
namespace Go.Proofs.YtabnanmfojppjaaDoor
open Go.RowKit
set_option linter.unusedVariables false

theorem Bs.one (w : World) (x : Int) (h : 0 ≤ x ∧ x ≤ 255) : Bs (w.alloc (.cells #[.int .u8 x] 5)) (.slice (some ⟨w.heap.size, 0, none⟩) 1 1) [x] := by
  have := (Own.lit w [x] #[.int .u8 x] rfl (by simpa using h) (by simp [maxLen])).bs (by simp [maxLen])
  simpa using this

theorem Own.lit0 (w : World) : Own (w.alloc (.cells #[] 5)) w.heap.size (.slice (some ⟨w.heap.size, 0, none⟩) 0 0) [] := Own.lit w [] #[] rfl (by simp) (by simp)

theorem Own.ne {w : World} {B : Nat} {v : Value} {l : List Int} (h : Own w B v l) {k : Nat} (hk : w.heap.size ≤ k) : v.ownBlock ≠ some k := by
  intro e
  have := (h.2.lt k e).2
  omega

end Go.Proofs.YtabnanmfojppjaaDoor
