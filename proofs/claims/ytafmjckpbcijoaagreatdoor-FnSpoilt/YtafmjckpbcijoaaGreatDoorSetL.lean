/-
  Cells set in a row of one's own.
-/
import Derived.Test.YtafmjckpbcijoaaGreatDoorGround
namespace Go.Proofs.YtafmjckpbcijoaaGreatDoor
open Go.RowKit
set_option linter.unusedVariables false
set_option linter.unusedSimpArgs false

def setL (xs : List Value) : Nat → List Value → List Value
  | _, [] => xs
  | o, v :: vs => setL (xs.set o v) (o + 1) vs
theorem setL_app (a : List Value) : ∀ (vs xs : List Value) (o : Nat), setL (a ++ xs) (a.length + o) vs = a ++ setL xs o vs
  | [], _, _ => rfl
  | v :: vs, xs, o => by
    rw [setL, setL, List.set_append, if_neg (by omega), show a.length + o - a.length = o by omega]
    exact setL_app a vs (xs.set o v) (o + 1)
theorem ownsRow_cells {base e size g n cap : Nat} : ∀ (vs : List Value) (w : World) (xs : List Value) (o : Nat), w.ownsRow base e size (.slice (some ⟨g, 0, none⟩) n cap) n xs → (w.setCells g o vs).ownsRow base e size (.slice (some ⟨g, 0, none⟩) n cap) n (setL xs o vs)
  | [], _, _, _, h => h
  | v :: vs, w, xs, o, h => ownsRow_cells vs (w.setCell ⟨g, o, none⟩ v) (xs.set o v) (o + 1) (h.stored o v).1
end Go.Proofs.YtafmjckpbcijoaaGreatDoor
