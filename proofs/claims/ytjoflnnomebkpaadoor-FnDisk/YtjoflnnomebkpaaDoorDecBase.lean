/-
  Codes and faults of a frame.
-/
import Derived.Test.YtjoflnnomebkpaaDoorOpenFr
namespace Go.Proofs.YtjoflnnomebkpaaDoor
open Go.RowKit
set_option linter.unusedVariables false
set_option linter.unusedSimpArgs false

theorem Bs.lt {w : World} {a : Option Addr} {n c : Nat} {l : List Int} (h : Bs w (.slice a n c) l) (hp : 0 < l.length) : ∃ x, a = some x ∧ x.block < w.heap.size := by
  obtain ⟨_, _, a', c', e, hcell⟩ := h
  injection e with e1 e2 e3
  subst e1
  obtain ⟨b, off, rfl, hj⟩ := hcell 0 hp
  exact ⟨_, rfl, cell_lt (hj 0 hp)⟩

/-- the code of a frame for the kinds lo .. hi, but for its rest -/
def openC (l : List Int) (lo hi : Int) : Nat := if sumC l ≠ 0 then sumC l else if inB (l[8]?.getD 0) lo hi = false then 4 else 0
theorem openC_le (l : List Int) (lo hi : Int) : openC l lo hi ≤ 4 := by
  unfold openC sumC
  repeat' split
  all_goals omega

/-- code and fault of a frame: what is left of its body, and the fault of its value -/
def decC (l : List Int) (lo hi : Int) (left : RSt) (f : Int) : Nat × Int :=
  if openC l lo hi ≠ 0 then (openC l lo hi, 0) else if left ≠ some [] then (5, 0) else if f ≠ 0 then (6, f) else (0, 0)
theorem decC_le (l : List Int) (lo hi : Int) (left : RSt) (f : Int) : (decC l lo hi left f).1 ≤ 6 := by
  have := openC_le l lo hi
  unfold decC
  repeat' split
  all_goals simp <;> omega
theorem decC_zero {l : List Int} {lo hi : Int} {left : RSt} {f : Int} (h : (decC l lo hi left f).1 = 0) : openC l lo hi = 0 ∧ left = some [] ∧ f = 0 := by
  unfold decC at h
  split at h
  · next h' => exact absurd h h'
  · next h' =>
    split at h
    · cases h
    · next h'' =>
      split at h
      · cases h
      · next h3 => exact ⟨Decidable.not_not.1 h', Decidable.not_not.1 h'', Decidable.not_not.1 h3⟩

theorem grown_of_below {w w' : World} (h : Below w.heap.size w w') (row : Option Nat) : w.grownBy w' row := ⟨h.os, h.tape, h.output, h.size, fun k hk _ => h.block k hk⟩

end Go.Proofs.YtjoflnnomebkpaaDoor
