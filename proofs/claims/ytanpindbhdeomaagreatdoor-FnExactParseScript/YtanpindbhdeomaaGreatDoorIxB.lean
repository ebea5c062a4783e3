/-
  A list of ints in a slice.
-/
import Derived.Test.YtanpindbhdeomaaGreatDoorRowBase
namespace Go.Proofs.YtanpindbhdeomaaGreatDoor
open Go.RowKit
set_option linter.unusedVariables false
set_option linter.unusedSimpArgs false

/-- a slice of ints that holds l -/
def Ix (w : World) (v : Value) (l : List Int) : Prop :=
  l.length ≤ maxLen ∧ ∃ a cap, v = .slice a l.length cap ∧ ∀ i, i < l.length → ∃ b off, a = some ⟨b, off, none⟩ ∧ ∀ j (h : j < l.length), w.cell? ⟨b, off + j, none⟩ = some (.int .i64 l[j])
theorem Ix.below {w w' : World} {v : Value} {l : List Int} (h : Ix w v l) (hb : Below w.heap.size w w') : Ix w' v l := by
  obtain ⟨hl, a, cap, rfl, hc⟩ := h
  refine ⟨hl, a, cap, rfl, fun i hi => ?_⟩
  obtain ⟨b, off, rfl, hj⟩ := hc i hi
  exact ⟨b, off, rfl, fun j hj' => (hb.cell (p := ⟨b, off + j, none⟩) (cell_lt (hj j hj'))).trans (hj j hj')⟩
theorem Ix.nil (w : World) : Ix w (.slice none 0 0) [] := ⟨by simp [maxLen], _, _, rfl, fun i hi => absurd hi (by simp)⟩
end Go.Proofs.YtanpindbhdeomaaGreatDoor
