/-
  spec.TimeoutOf.
-/
import Derived.Test.YtceokablbefjhaaTimeout
namespace Go.Proofs.Ytceokablbefjhaa
open Go.RowKit
set_option linter.unusedVariables false

set_option maxHeartbeats 400000 in
theorem sTimeoutOf_any (el dr : Int) (hx : -(2 ^ 63) ≤ dr) (hX : dr < 2 ^ 63) (w : World) :
    Calls Try.prog 90 #[.int .i64 el, .int .i64 dr] w fun e w' => e = .returned (.int .i64 (toutC el dr)) ∧ w' = w := by
  cases hi : inB el 1 1000
  · rw [toutC_out dr hi]
    go_enter Try.func90, Try.ntmps90
    go_wp2_with (go_at_call 60; refine (l1in_any _ _ _ _).mono ?_; rintro e w1 ⟨rfl, rfl⟩)
    go_ret
    exact ⟨rfl, rfl⟩
  · rw [toutC_in dr hi]
    have h2 := (inB_iff _ _ _).mp hi
    have m1 := modI_ge dr el (by omega)
    have m2 := modI_lt dr el (by omega)
    go_enter Try.func90, Try.ntmps90
    go_wp2_with (first
      | (go_at_call 60; refine (l1in_any _ _ _ _).mono ?_; rintro e w1 ⟨rfl, rfl⟩)
      | (go_at_call 96; refine (l1mod_any dr el (by omega) (by omega) hx hX _).mono ?_; rintro e w1 ⟨rfl, rfl⟩))
    go_ret
    exact ⟨rfl, rfl⟩

end Go.Proofs.Ytceokablbefjhaa
