/-
  Marks under way in a list of structs of m cells each: cs k are the cells of an element that is marked from k on.
-/
import Derived.Test.YtanpindbhdeomaaGreatDoorLawTurn
import Derived.Test.YtanpindbhdeomaaGreatDoorRowBase
import Derived.Test.YtanpindbhdeomaaGreatDoorMarkTx0
namespace Go.Proofs.YtanpindbhdeomaaGreatDoor
open Go.RowKit
set_option linter.unusedVariables false

/-- elements ahead of j are marked; of element j the first t cells -/
structure MkG (cs : Nat → List Value) (m : Nat) (w : World) (q n k0 j t : Nat) : Prop where
  room : w.there q 0 (n * m)
  old : ∀ i, i < j → ∀ s v, (cs (k0 + m * i))[s]? = some v → w.cell? ⟨q, i * m + s, none⟩ = some v
  new : ∀ s v, s < t → (cs (k0 + m * j))[s]? = some v → w.cell? ⟨q, j * m + s, none⟩ = some v
theorem MkG.start {cs : Nat → List Value} {m : Nat} {w : World} {q n k0 : Nat} (h : w.there q 0 (n * m)) : MkG cs m w q n k0 0 0 := ⟨h, fun i hi => by omega, fun s v hs => by omega⟩
theorem MkG.step {cs : Nat → List Value} {m : Nat} {w : World} {q n k0 j t : Nat} (h : MkG cs m w q n k0 j t) (hm : ∀ k, (cs k).length = m) (hj : j < n) (ht : t < m) (x : Value) (hx : (cs (k0 + m * j))[t]? = some x) : MkG cs m (w.setCell ⟨q, j * m + t, none⟩ x) q n k0 j (t + 1) := by
  refine ⟨there_set' h.room _ _ _, fun i hi s v hs => ?_, fun s v hs hv => ?_⟩
  · have hsm : s < m := by rw [← hm (k0 + m * i)]; exact (List.getElem?_eq_some_iff.1 hs).1
    have hle : i * m + m ≤ j * m := by rw [← Nat.succ_mul]; exact Nat.mul_le_mul_right m hi
    rw [set_other (by omega)]
    exact h.old i hi s v hs
  · by_cases e : s = t
    · subst e
      rw [hx] at hv
      injection hv with hv
      subst hv
      have hle : j * m + m ≤ n * m := by rw [← Nat.succ_mul]; exact Nat.mul_le_mul_right m hj
      exact set_same (there_get' h.room (j * m + s) (by omega))
    · rw [set_other (by omega)]
      exact h.new s v (by omega) hv
theorem MkG.below {cs : Nat → List Value} {m : Nat} {w w' : World} {q n k0 j t : Nat} (h : MkG cs m w q n k0 j t) (hb : Below w.heap.size w w') (hq : q < w.heap.size) : MkG cs m w' q n k0 j t :=
  ⟨there_block' h.room (hb.block q hq), fun i hi s v hs => (hb.cell (p := ⟨q, i * m + s, none⟩) hq).trans (h.old i hi s v hs), fun s v hs hv => (hb.cell (p := ⟨q, j * m + s, none⟩) hq).trans (h.new s v hs hv)⟩
theorem MkG.next {cs : Nat → List Value} {m : Nat} {w : World} {q n k0 j : Nat} (h : MkG cs m w q n k0 j m) (hm : ∀ k, (cs k).length = m) : MkG cs m w q n k0 (j + 1) 0 := by
  refine ⟨h.room, fun i hi s v hs => ?_, fun s v hs => by omega⟩
  by_cases e : i = j
  · subst e
    exact h.new s v (by rw [← hm (k0 + m * i)]; exact (List.getElem?_eq_some_iff.1 hs).1) hs
  · exact h.old i (by omega) s v hs
theorem MkG.keep {cs : Nat → List Value} {m : Nat} {w w' : World} {q n k0 j t : Nat} (h : MkG cs m w q n k0 j t) (hb : w'.heap[q]? = w.heap[q]?) : MkG cs m w' q n k0 j t :=
  ⟨there_block' h.room hb, fun i hi s v hs => (World.cell?_of_block (w := w) hb).trans (h.old i hi s v hs), fun s v hs hv => (World.cell?_of_block (w := w) hb).trans (h.new s v hs hv)⟩
theorem grown_belowG {w w' : World} (row : Option Nat) (h : Below w.heap.size w w') : w.grownBy w' row := ⟨h.os, h.tape, h.output, h.size, fun k hk _ => h.block k hk⟩
end Go.Proofs.YtanpindbhdeomaaGreatDoor
