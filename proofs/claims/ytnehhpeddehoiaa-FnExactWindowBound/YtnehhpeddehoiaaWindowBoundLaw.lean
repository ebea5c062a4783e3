/-
  The walk of the law FnExactWindowBound.
-/
import Derived.Test.YtnehhpeddehoiaaWindow
namespace Go.Proofs.Ytnehhpeddehoiaa
open Go.RowKit
set_option linter.unusedVariables false
set_option linter.unusedSimpArgs false

set_option maxHeartbeats 1000000 in
theorem lawWindowBound_walk (s c el b r d lg dn : Int) (z0 : -(2 ^ 63) ≤ lg) (z1 : lg < 2 ^ 63) (z2 : -(2 ^ 63) ≤ dn) (z3 : dn < 2 ^ 63) (w : World) :
    Calls Try.prog 3 #[.agg #[.int .i64 s, .int .i64 c, .int .i64 el, .int .i64 b, .int .i64 r, .int .i64 d], .int .i64 lg, .int .i64 dn] w fun e w' =>
      e = .returned (.bool true) ∧ Below w.heap.size w w' := by
  clear z0 z1 z2 z3
  have g1 : True := trivial
  have g2 : True := trivial
  go_enter Try.func3, Try.ntmps3
  go_wp2_with (first
    | (go_at_call 7; clear g1; refine (toSetup_any s c el b r d _).mono ?_; rintro e w1 ⟨rfl, hb⟩; obtain ⟨hc, hf⟩ := bcell hb; have hz : w.heap.size < w1.heap.size := (by have := hb.size; simp at this; omega); have hB : Below w.heap.size w w1 := ((Below.refl _ _).alloc (Nat.le_refl _) _).trans (hb.mono (by simp)))
    | (go_at_call 6; refine (sWindowBound_any s c el b r d lg dn _).mono ?_; rintro e w2 ⟨rfl, hb⟩; obtain ⟨hc, hf⟩ := bcell hb; have hz : w.heap.size < w2.heap.size := (by have := hb.size; omega); replace hB := hB.trans (hb.mono (by omega)))
    | (go_at_call 7; clear g2; refine (toSetup_any s c el b r d _).mono ?_; rintro e w3 ⟨rfl, hb⟩; obtain ⟨hc, hf⟩ := bcell hb; have hz : w.heap.size < w3.heap.size := (by have := hb.size; omega); replace hB := hB.trans (hb.mono (by omega)))
    | (go_at_call 8; refine (windowBound_any s c el b r d lg dn _).mono ?_; rintro e w4 ⟨rfl, hb⟩; replace hB := hB.trans (hb.mono (by omega))))
  all_goals go_ret
  all_goals exact ⟨rfl, hB⟩
end Go.Proofs.Ytnehhpeddehoiaa
