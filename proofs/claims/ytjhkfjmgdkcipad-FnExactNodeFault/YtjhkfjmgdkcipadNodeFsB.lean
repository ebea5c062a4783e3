/-
  NodeFault: spec, the roles.
-/
import Derived.Test.YtjhkfjmgdkcipadNodeF
namespace Go.Proofs.Ytjhkfjmgdkcipad
open Go.RowKit
set_option linter.unusedVariables false
set_option linter.unusedSimpArgs false

theorem rb0 : inB 0 0 3 = true := rfl
theorem rb1 : inB 1 0 3 = true := rfl
theorem rb2 : inB 2 0 3 = true := rfl
theorem rb3 : inB 3 0 3 = true := rfl
end Go.Proofs.Ytjhkfjmgdkcipad
