/-
  impl.sizeFits, spec.l3size.
-/
import Derived.Test.YtceokablbefjhaaWithin
import Derived.Test.YtceokablbefjhaaL1in
namespace Go.Proofs.Ytceokablbefjhaa
open Go.RowKit
set_option linter.unusedVariables false
set_option linter.unusedSimpArgs false

def sizB (n : Int) : Bool := n == 3 || n == 5 || n == 7
theorem sizeFitsN_any (n : Int) (w : World) : Calls Try.prog 140 #[.int .i64 n] w fun e w' => e = .returned (.bool (sizB n)) ∧ w' = w := by
  by_cases h3 : n = 3
  · subst h3
    go_enter Try.func140, Try.ntmps140
    go_wp2
    go_ret
    exact ⟨rfl, rfl⟩
  · by_cases h5 : n = 5
    · subst h5
      go_enter Try.func140, Try.ntmps140
      go_wp2
      go_ret
      exact ⟨rfl, rfl⟩
    · go_enter Try.func140, Try.ntmps140
      go_wp2
      go_ret
      exact ⟨by simp [sizB, h3, h5], rfl⟩
theorem l3size_any (n : Int) (w : World) : Calls Try.prog 139 #[.int .i64 n] w fun e w' => e = .returned (.bool (sizB n)) ∧ w' = w := by
  by_cases h3 : n = 3
  · subst h3
    go_enter Try.func139, Try.ntmps139
    go_wp2
    go_ret
    exact ⟨rfl, rfl⟩
  · by_cases h5 : n = 5
    · subst h5
      go_enter Try.func139, Try.ntmps139
      go_wp2
      go_ret
      exact ⟨rfl, rfl⟩
    · go_enter Try.func139, Try.ntmps139
      go_wp2
      go_ret
      exact ⟨by simp [sizB, h3, h5], rfl⟩
end Go.Proofs.Ytceokablbefjhaa
