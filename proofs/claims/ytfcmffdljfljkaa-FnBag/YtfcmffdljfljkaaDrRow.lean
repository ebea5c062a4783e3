/-
  Draws beside a row of bytes of one's own.
-/
import Derived.Test.YtfcmffdljfljkaaDrU
import Derived.Test.YtfcmffdljfljkaaGround
namespace Go.Proofs.Ytfcmffdljfljkaa
open Go.RowKit
set_option linter.unusedVariables false
set_option linter.unusedSimpArgs false

theorem Own.grownL {w w' : World} {B q : Nat} {v : Value} {l : List Int} (h : Own w B v l) (hg : w.grownBy w' (some q)) (hq : q < B) : Own w' B v l :=
  ⟨h.1, h.2.kept hg (.inr fun e => by have := (h.2.lt q e).1; omega)⟩
section
variable {w0 w w' : World} {g k : Nat} {v u : Value} {l b : List Int}
theorem Dr.pickO (h : Dr w0 w g v l k []) (ho : Own w w0.heap.size u b) (n : Nat) (hL : l.length ≤ 1048576) (hk : k ≤ 900000000) (hn : 0 < n) (hN : n ≤ 4294967296) :
    Calls Try.prog 71 #[.pointer (some ⟨g, 0, none⟩), .int .i64 n] w fun e w' => e = .returned (.int .i64 (pickV l k n : Nat)) ∧ Dr w0 w' g v l (k + pickK n) [] ∧ Own w' w0.heap.size u b :=
  (l1pick_any g w v l k n hL hk hn hN h.src).mono fun e w' ⟨h1, h2, h3⟩ => ⟨h1, h.call h2 h3, ho.grownL h3 h.gl⟩
theorem Dr.nextO (h : Dr w0 w g v l k []) (ho : Own w w0.heap.size u b) (hL : l.length ≤ 1048576) (hk : k ≤ 900000000) :
    Calls Try.prog 73 #[.pointer (some ⟨g, 0, none⟩)] w fun e w' => e = .returned (.int .i64 (nextV l k)) ∧ Dr w0 w' g v l (k + 1) [] ∧ Own w' w0.heap.size u b :=
  (l1next_any g w v l k hL (by omega) h.src).mono fun e w' ⟨h1, h2, h3⟩ => ⟨h1, h.call h2 h3, ho.grownL h3 h.gl⟩
theorem Dr.storeO (h : Dr w0 w g v l k []) {q j : Nat} (hq : w0.heap.size ≤ q) (y : Value) : Dr w0 (w.setCell ⟨q, j, none⟩ y) g v l k [] :=
  h.belowB ((Below.refl w0.heap.size w).setCell hq y) (Nat.le_refl _) (fun x hx => by cases hx)
theorem Dr.grewO (h : Dr w0 w g v l k []) (ho : Own w w0.heap.size u b) {u' : Value} (hg : Grew w u w' u') : Dr w0 w' g v l k [] :=
  h.grew hg (fun q e => (ho.2.lt q e).1) (fun x hx => by cases hx)
end
end Go.Proofs.Ytfcmffdljfljkaa
