/-
  impl.TimeoutOf.
-/
import Derived.Test.YtceokablbefjhaaMod
namespace Go.Proofs.Ytceokablbefjhaa
open Go.RowKit
set_option linter.unusedVariables false

def toutC (el dr : Int) : Int := if inB el 1 1000 = true then el + modI dr el else 0

theorem toutC_in {el : Int} (dr : Int) (h : inB el 1 1000 = true) : toutC el dr = el + modI dr el := by unfold toutC; rw [if_pos h]
theorem toutC_out {el : Int} (dr : Int) (h : inB el 1 1000 = false) : toutC el dr = 0 := by unfold toutC; rw [h]; rfl

set_option maxHeartbeats 400000 in
theorem timeoutOf_any (el dr : Int) (hx : -(2 ^ 63) ≤ dr) (hX : dr < 2 ^ 63) (w : World) :
    Calls Try.prog 94 #[.int .i64 el, .int .i64 dr] w fun e w' => e = .returned (.int .i64 (toutC el dr)) ∧ w' = w := by
  cases hi : inB el 1 1000
  · rw [toutC_out dr hi]
    go_enter Try.func94, Try.ntmps94
    go_wp2_with (go_at_call 66; refine (within_any _ _ _ _).mono ?_; rintro e w1 ⟨rfl, rfl⟩)
    go_ret
    exact ⟨rfl, rfl⟩
  · rw [toutC_in dr hi]
    have h2 := (inB_iff _ _ _).mp hi
    have m1 := modI_ge dr el (by omega)
    have m2 := modI_lt dr el (by omega)
    go_enter Try.func94, Try.ntmps94
    go_wp2_with (first
      | (go_at_call 66; refine (within_any _ _ _ _).mono ?_; rintro e w1 ⟨rfl, rfl⟩)
      | (go_at_call 143; refine (mod_any dr el (by omega) (by omega) hx hX _).mono ?_; rintro e w1 ⟨rfl, rfl⟩))
    go_ret
    exact ⟨rfl, rfl⟩

end Go.Proofs.Ytceokablbefjhaa
