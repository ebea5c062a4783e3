/-
  impl.sizeFits, spec.l3size.
-/
import Derived.Test.YtjhkfjmgdkcipaaWithin
import Derived.Test.YtjhkfjmgdkcipaaL1in
namespace Go.Proofs.Ytjhkfjmgdkcipaa
open Go.RowKit
set_option linter.unusedVariables false
set_option linter.unusedSimpArgs false

def sizB (n : Int) : Bool := n == 3 || n == 5 || n == 7
theorem sizeFitsN_any (n : Int) (w : World) : Calls Try.prog 40 #[.int .i64 n] w fun e w' => e = .returned (.bool (sizB n)) ∧ w' = w := by
  by_cases h3 : n = 3
  · subst h3
    go_enter Try.func40, Try.ntmps40
    go_wp2
    go_ret
    exact ⟨rfl, rfl⟩
  · by_cases h5 : n = 5
    · subst h5
      go_enter Try.func40, Try.ntmps40
      go_wp2
      go_ret
      exact ⟨rfl, rfl⟩
    · go_enter Try.func40, Try.ntmps40
      go_wp2
      go_ret
      exact ⟨by simp [sizB, h3, h5], rfl⟩
theorem l3size_any (n : Int) (w : World) : Calls Try.prog 39 #[.int .i64 n] w fun e w' => e = .returned (.bool (sizB n)) ∧ w' = w := by
  by_cases h3 : n = 3
  · subst h3
    go_enter Try.func39, Try.ntmps39
    go_wp2
    go_ret
    exact ⟨rfl, rfl⟩
  · by_cases h5 : n = 5
    · subst h5
      go_enter Try.func39, Try.ntmps39
      go_wp2
      go_ret
      exact ⟨rfl, rfl⟩
    · go_enter Try.func39, Try.ntmps39
      go_wp2
      go_ret
      exact ⟨by simp [sizB, h3, h5], rfl⟩
end Go.Proofs.Ytjhkfjmgdkcipaa
