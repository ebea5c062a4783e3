/-
  The walk of the law FnExactCmdFault.
-/
import Derived.Test.YtdobgdbceonjkaaCmd
import Derived.Test.YtdobgdbceonjkaaCmdArg
namespace Go.Proofs.Ytdobgdbceonjkaa
open Go.RowKit
set_option linter.unusedVariables false

set_option maxHeartbeats 1000000 in
theorem lawCmdFault_walk (cl sq op : Int) (k v o : ByteArray) (hk : k.size ≤ maxLen) (hv : v.size ≤ maxLen) (ho : o.size ≤ maxLen) (w : World) :
    Calls Try.prog 4 #[.agg #[.int .i64 cl, .int .i64 sq, .int .i64 op, .string k, .string v, .string o]] w fun e w' =>
      e = .returned (.bool true) ∧ Below w.heap.size w w' := by
  go_enter Try.func4, Try.ntmps4
  go_wp2_with (first
    | (go_at_call 12; refine (szCmd_any cl sq op k v o _ (by omega) (by omega) hk hv ho _).mono ?_; rintro e w1 ⟨rfl, hb⟩; obtain ⟨hc, hf⟩ := bcell hb; have hz : w.heap.size < w1.heap.size := (by have := hb.size; simp at this; omega); have hB : Below w.heap.size w w1 := ((Below.refl _ _).alloc (Nat.le_refl _) _).trans (hb.mono (by simp)))
    | (go_at_call 14; refine (toCmd_any cl sq op k v o _).mono ?_; rintro e w2 ⟨rfl, hb⟩; obtain ⟨hc, hf⟩ := bcell hb; have hz : w.heap.size < w2.heap.size := (by have := hb.size; omega); replace hB := hB.trans (hb.mono (by omega)))
    | (go_at_call 13; refine (specCmdFault_any cl sq op k v o hk hv ho _).mono ?_; rintro e w3 ⟨rfl, hb⟩; obtain ⟨hc, hf⟩ := bcell hb; have hz : w.heap.size < w3.heap.size := (by have := hb.size; omega); replace hB := hB.trans (hb.mono (by omega)))
    | (go_at_call 15; refine (implCmdFault_any cl sq op k v o hk hv ho _).mono ?_; rintro e w4 ⟨rfl, hb⟩; replace hB := hB.trans (hb.mono (by omega))))
  all_goals go_ret
  all_goals exact ⟨rfl, hB⟩
end Go.Proofs.Ytdobgdbceonjkaa
