/-
  spec.l1min, spec.l1size.
-/
import Derived.Test.YtfcmffdljfljkaaGround
namespace Go.Proofs.Ytfcmffdljfljkaa
open Go.RowKit
set_option linter.unusedVariables false
set_option linter.unusedSimpArgs false

theorem l1min_any (a b : Int) (w : World) : Calls Try.prog 102 #[.int .i64 a, .int .i64 b] w fun e w' => e = .returned (.int .i64 (min a b)) ∧ w' = w := by
  by_cases h : a < b
  · rw [show min a b = a by omega]
    go_enter Try.func102, Try.ntmps102
    go_wp2
    go_ret
    exact ⟨rfl, rfl⟩
  · rw [show min a b = b by omega]
    go_enter Try.func102, Try.ntmps102
    go_wp2
    go_ret
    exact ⟨rfl, rfl⟩
theorem l1size_any (a : Option Addr) (n cap : Nat) (hn : n ≤ maxLen) (w : World) : Calls Try.prog 70 #[.slice a n cap] w fun e w' => e = .returned (.int .i64 ((min n 400 : Nat) : Int)) ∧ w' = w := by
  have h := fun w => l1min_any (n : Int) 400 w
  rw [show min (n : Int) 400 = ((min n 400 : Nat) : Int) by omega] at h
  have H : Hid (∀ w : World, Calls Try.prog 102 #[.int .i64 n, .int .i64 400] w fun e w' => e = .returned (.int .i64 ((min n 400 : Nat) : Int)) ∧ w' = w) := h
  clear h
  generalize min n 400 = m at H ⊢
  go_enter Try.func70, Try.ntmps70
  go_wp2_with (go_at_call 102; refine Calls.mono (H.out _) ?_; rintro e w1 ⟨rfl, rfl⟩)
  go_ret
  exact ⟨rfl, rfl⟩
end Go.Proofs.Ytfcmffdljfljkaa
