/-
  laws.eqMsg at equal values.
-/
import Derived.Test.YtmbiccmndcchhaeDoorEqEnts
namespace Go.Proofs.YtmbiccmndcchhaeDoor
open Go.RowKit
set_option linter.unusedVariables false

set_option maxHeartbeats 4000000 in
set_option maxRecDepth 100000 in
theorem eqMsg_same (ki fr to tm li lt cm ok hi : Int) (ev eu : Value) (l : List Ent) (w : World) (hv : Es w ev l) (hu : Es w eu l) :
    Calls Tryd.prog 26 #[.agg #[.int .i64 ki, .int .i64 fr, .int .i64 to, .int .i64 tm, .int .i64 li, .int .i64 lt, .int .i64 cm, .int .i64 ok, .int .i64 hi, ev], .agg #[.int .i64 ki, .int .i64 fr, .int .i64 to, .int .i64 tm, .int .i64 li, .int .i64 lt, .int .i64 cm, .int .i64 ok, .int .i64 hi, eu]] w fun r w' => r = .returned (.bool true) ∧ Below w.heap.size w w' := by
  have hV : Hid (Es w ev l) := hv
  have hU : Hid (Es w eu l) := hu
  obtain ⟨_, _, a, cap, rfl, _⟩ := hv
  obtain ⟨_, _, a', cap', rfl, _⟩ := hu
  have hB : ∀ o1 o2 : Obj, Below w.heap.size w ((w.alloc o1).alloc o2) := fun o1 o2 => ((Below.refl _ _).alloc (Nat.le_refl _) _).alloc (by simp) _
  go_enter Tryd.func26, Tryd.ntmps26
  go_wp2_with (go_at_call 47; refine (eqEntryS_same _ _ l _ (hV.out.below (hB _ _)) (hU.out.below (hB _ _))).mono ?_; rintro r w1 ⟨rfl, hb⟩)
  go_ret
  exact ⟨rfl, (hB _ _).trans (hb.mono (by simp; omega))⟩
end Go.Proofs.YtmbiccmndcchhaeDoor
