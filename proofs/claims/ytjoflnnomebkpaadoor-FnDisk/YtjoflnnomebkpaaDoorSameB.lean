/-
  laws.sameBytes of two slices of the same bytes.
-/
import Derived.Test.YtjoflnnomebkpaaDoorGround
import Derived.BigQuiet
import Derived.Deep.QuietTactic
namespace Go.Proofs.YtjoflnnomebkpaaDoor
open Go.RowKit
set_option linter.unusedVariables false

set_option maxHeartbeats 1000000 in
theorem sameBytes_same (v u : Value) (l : List Int) (w : World) (hv : Bs w v l) (hu : Bs w u l) :
    Calls Tryd.prog 13 #[v, u] w fun e w' => e = .returned (.bool true) ∧ ∃ n, w' = w.drewN n := by
  obtain ⟨hl, h8, a, cap, rfl, hc⟩ := hv
  obtain ⟨_, _, a', cap', rfl, hc'⟩ := hu
  unfold maxLen at hl
  go_enter Tryd.func13, Tryd.ntmps13
  go_wp2
  go_loopw [5] (fun i wr => ∃ k : Nat, k ≤ l.length ∧ i = .int .i64 k ∧ ∃ n, wr = w.drewN n) (fun i _ => l.length - (intOf i).toNat)
  case atStart => exact ⟨0, Nat.zero_le _, rfl, 0, rfl⟩
  case round =>
    obtain ⟨k, hk, rfl, n, rfl⟩ := hrel
    by_cases hlt : k < l.length
    · obtain ⟨b, off, rfl, hcell⟩ := hc k hlt
      obtain ⟨b', off', rfl, hcell'⟩ := hc' k hlt
      have hck := hcell k hlt
      have hck' := hcell' k hlt
      clear hcell hcell' hc hc'
      go_wp2
      go_quiet (fail)
      go_wp2
      go_roundw
      case rel => exact ⟨k + 1, by omega, by go_num, _, rfl⟩
      case measure => simp [intOf]; omega
    · have e : k = l.length := by omega
      subst e
      go_wp2
      go_ret
      exact ⟨rfl, _, rfl⟩
end Go.Proofs.YtjoflnnomebkpaaDoor
