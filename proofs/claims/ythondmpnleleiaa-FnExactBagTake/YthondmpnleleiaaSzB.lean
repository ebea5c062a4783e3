/-
  laws.szByteS.
-/
import Derived.Test.YthondmpnleleiaaBytes
namespace Go.Proofs.Ythondmpnleleiaa
open Go.RowKit
set_option linter.unusedVariables false

set_option maxHeartbeats 1000000 in
theorem szByteS_any (a : Option Addr) (n cap : Nat) (k : Nat) (hk : k ≤ 1048576) (hn : n ≤ maxLen) (w : World) :
    Calls Try.prog 81 #[.slice a n cap, .int .i64 k] w fun e w' => e = .returned (.int .i64 (if n ≤ k then ((k - n : Nat) : Int) else -1)) ∧ w' = w := by
  unfold maxLen at hn
  by_cases h : n ≤ k
  · rw [if_pos h]
    have e : ((k - n : Nat) : Int) = (k : Int) - n := by omega
    rw [e]
    go_enter Try.func81, Try.ntmps81
    go_wp2
    go_ret
    exact ⟨rfl, rfl⟩
  · rw [if_neg h]
    have h' : (k : Int) < n := by omega
    go_enter Try.func81, Try.ntmps81
    go_wp2
    go_ret
    exact ⟨rfl, rfl⟩

end Go.Proofs.Ythondmpnleleiaa
