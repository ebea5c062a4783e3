/-
  The walk of the law FnExactCrc32.
-/
import Derived.Test.YtdobgdbceonjkaaCrc
import Derived.Test.YtdobgdbceonjkaaToBytes
namespace Go.Proofs.Ytdobgdbceonjkaa
open Go.RowKit
set_option linter.unusedVariables false

set_option maxHeartbeats 1000000 in
theorem lawCrc32_walk (v : Value) (l : List Int) (w : World) (hv : Bs w v l) :
    Calls Try.prog 3 #[v] w fun e w' => e = .returned (.bool true) ∧ Below w.heap.size w w' := by
  have hV : Hid (Bs w v l) := hv
  obtain ⟨hl, h8, a, cap, rfl, hc⟩ := hv
  clear hc
  unfold maxLen at hl
  by_cases hbig : 1048576 < l.length
  · go_enter Try.func3, Try.ntmps3
    go_wp2
    go_ret
    exact ⟨rfl, Below.refl _ _⟩
  · have hB : Below w.heap.size w w := Below.refl _ _
    have hs : w.heap.size ≤ w.heap.size := Nat.le_refl _
    go_enter Try.func3, Try.ntmps3
    go_wp2_with (first
      | (go_at_call 9; refine (toByteS_any _ l _ (hV.out.below hB) (by omega)).mono ?_; rintro e w1 ⟨v1, rfl, hv1, hb⟩; obtain ⟨_, _, a1, c1, rfl, _⟩ := id hv1; replace hB := hB.trans (hb.mono hs); replace hs := hB.size)
      | (go_at_call 8; refine (specCrc_any _ l _ hv1).mono ?_; rintro e w2 ⟨rfl, rfl⟩)
      | (go_at_call 10; refine (implCrc_any _ l _ hv1).mono ?_; rintro e w2 ⟨rfl, rfl⟩; have hX := Hid.out (p := Bs _ _ _) hv1; have hb0 := hB)
      | (go_at_call 11; refine (eqByteS_same _ _ l _ (hX.below hb) hv1).mono ?_; rintro e w2 ⟨rfl, hb'⟩; replace hB := hB.trans (hb'.mono hs)))
    go_ret
    exact ⟨rfl, hB⟩
end Go.Proofs.Ytdobgdbceonjkaa
