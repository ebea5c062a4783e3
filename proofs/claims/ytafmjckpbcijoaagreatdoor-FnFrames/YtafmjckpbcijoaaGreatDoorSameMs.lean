/-
  laws.sameMsg of two messages that are the same.
-/
import Derived.Test.YtafmjckpbcijoaaGreatDoorCommon
namespace Go.Proofs.YtafmjckpbcijoaaGreatDoor
open Go.RowKit
set_option linter.unusedVariables false
set_option linter.unusedSimpArgs false

set_option maxHeartbeats 8000000 in
set_option maxRecDepth 100000 in
theorem sameMsg_same (ki fr td tm li lt cm ok hi : Int) (v u : Value) (l : List Ent) (w : World) (hv : Es w v l) (hu : Es w u l) (hll : l.length ≤ 1048576) :
    Calls Tryz.prog 17 #[.agg #[.int .i64 ki, .int .i64 fr, .int .i64 td, .int .i64 tm, .int .i64 li, .int .i64 lt, .int .i64 cm, .int .i64 ok, .int .i64 hi, v], .agg #[.int .i64 ki, .int .i64 fr, .int .i64 td, .int .i64 tm, .int .i64 li, .int .i64 lt, .int .i64 cm, .int .i64 ok, .int .i64 hi, u]] w fun e w' => e = .returned (.bool true) ∧ Below w.heap.size w w' := by
  have HL : Hid (∀ w', Below w.heap.size w w' → Calls Tryz.prog 40 #[v, u] w' fun e w'' => e = .returned (.bool true) ∧ ∃ n, w'' = w'.drewN n) := fun w' hb => by
    have hx := sameLog_any v u l l w' (hv.below hb) (hu.below hb) hll hll
    rw [sameB_self] at hx
    exact hx
  obtain ⟨_, _, a, cap, rfl, _⟩ := hv
  obtain ⟨_, _, a', cap', rfl, _⟩ := hu
  go_enter Tryz.func17, Tryz.ntmps17
  go_wp2_with (go_at_call 40; refine (HL.out _ (((Below.refl _ _).alloc (Nat.le_refl _) _).alloc (by simp) _)).mono ?_; rintro e w1 ⟨rfl, n1, rfl⟩)
  go_ret
  exact ⟨rfl, (((Below.refl _ _).alloc (Nat.le_refl _) _).alloc (by simp) _).trans ⟨rfl, rfl, rfl, Nat.le_refl _, fun _ _ => rfl⟩⟩
end Go.Proofs.YtafmjckpbcijoaaGreatDoor
