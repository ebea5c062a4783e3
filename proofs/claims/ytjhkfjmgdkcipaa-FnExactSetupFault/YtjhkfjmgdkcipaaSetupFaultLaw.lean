/-
  The walk of the law FnExactSetupFault.
-/
import Derived.Test.YtjhkfjmgdkcipaaSetup
namespace Go.Proofs.Ytjhkfjmgdkcipaa
open Go.RowKit
set_option linter.unusedVariables false

set_option maxHeartbeats 1000000 in
theorem lawSetupFault_walk (s c el b r d : Int) (w : World) :
    Calls Try.prog 7 #[.agg #[.int .i64 s, .int .i64 c, .int .i64 el, .int .i64 b, .int .i64 r, .int .i64 d]] w fun e w' =>
      e = .returned (.bool true) ∧ Below w.heap.size w w' := by
  have g1 : True := trivial
  have g2 : True := trivial
  go_enter Try.func7, Try.ntmps7
  go_wp2_with (first
    | (go_at_call 26; clear g1; refine (toSetup_any s c el b r d _).mono ?_; rintro e w1 ⟨rfl, hb⟩; obtain ⟨hc, hf⟩ := bcell hb; have hz : w.heap.size < w1.heap.size := (by have := hb.size; simp at this; omega); have hB : Below w.heap.size w w1 := ((Below.refl _ _).alloc (Nat.le_refl _) _).trans (hb.mono (by simp)))
    | (go_at_call 25; refine (sSetupFault_any s c el b r d _).mono ?_; rintro e w2 ⟨rfl, hb⟩; obtain ⟨hc, hf⟩ := bcell hb; have hz : w.heap.size < w2.heap.size := (by have := hb.size; omega); replace hB := hB.trans (hb.mono (by omega)))
    | (go_at_call 26; clear g2; refine (toSetup_any s c el b r d _).mono ?_; rintro e w3 ⟨rfl, hb⟩; obtain ⟨hc, hf⟩ := bcell hb; have hz : w.heap.size < w3.heap.size := (by have := hb.size; omega); replace hB := hB.trans (hb.mono (by omega)))
    | (go_at_call 27; refine (setupFault_any s c el b r d _).mono ?_; rintro e w4 ⟨rfl, hb⟩; replace hB := hB.trans (hb.mono (by omega))))
  all_goals go_ret
  all_goals exact ⟨rfl, hB⟩
end Go.Proofs.Ytjhkfjmgdkcipaa
