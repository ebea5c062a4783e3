/-
  spec.DecodeReply, whole.
-/
import Derived.Test.YtafmjckpbcijoaaGreatDoorSDecReplyA
import Derived.Test.YtafmjckpbcijoaaGreatDoorSDecReplyB
import Derived.Test.YtafmjckpbcijoaaGreatDoorSDecReplyC
import Derived.Test.YtafmjckpbcijoaaGreatDoorSDecReplyD
namespace Go.Proofs.YtafmjckpbcijoaaGreatDoor
open Go.RowKit
set_option linter.unusedVariables false
set_option linter.unusedSimpArgs false

theorem specDecReply_any (a : Option Addr) (len c : Nat) (l : List Int) (w : World) (hv : Bs w (.slice a len c) l) (hc : len ≤ c) :
    Calls Tryz.prog 46 #[.slice a len c] w fun e w' => e = .returned (repAns (repC l) (rdReply (some (l.drop 9)))) ∧ Below w.heap.size w w' := by
  have el : len = l.length := by obtain ⟨_, _, _, _, e, _⟩ := hv; injection e
  subst el
  by_cases h0 : openC l 8 8 = 0
  · have hC0 : repC l = if (rdReply (some (l.drop 9))).left ≠ some [] then (5, 0) else if (repF (rdReply (some (l.drop 9))).cl (rdReply (some (l.drop 9))).sq (rdReply (some (l.drop 9))).st (rdReply (some (l.drop 9))).cd (rdReply (some (l.drop 9))).v.size (rdReply (some (l.drop 9))).ld) ≠ 0 then (6, (repF (rdReply (some (l.drop 9))).cl (rdReply (some (l.drop 9))).sq (rdReply (some (l.drop 9))).st (rdReply (some (l.drop 9))).cd (rdReply (some (l.drop 9))).v.size (rdReply (some (l.drop 9))).ld)) else (0, 0) := by
      unfold repC decC
      rw [if_neg (fun h => h h0)]
    rcases hleft : (rdReply (some (l.drop 9))).left with _ | l'
    · have e : repC l = (5, 0) := by rw [hC0, hleft]; rfl
      rw [e]
      exact specDecReply_bad a c l w hv hc h0 hleft
    · cases l' with
      | cons x t =>
        have e : repC l = (5, 0) := by rw [hC0, hleft]; rfl
        rw [e]
        exact specDecReply_long a c l w hv hc h0 x t hleft
      | nil =>
        by_cases hf : (repF (rdReply (some (l.drop 9))).cl (rdReply (some (l.drop 9))).sq (rdReply (some (l.drop 9))).st (rdReply (some (l.drop 9))).cd (rdReply (some (l.drop 9))).v.size (rdReply (some (l.drop 9))).ld) = 0
        · have e : repC l = (0, 0) := by rw [hC0, hleft, if_neg (fun h => h rfl), if_neg (fun h => h hf)]
          rw [e]
          exact specDecReply_good a c l w hv hc h0 hf hleft
        · have e : repC l = (6, (repF (rdReply (some (l.drop 9))).cl (rdReply (some (l.drop 9))).sq (rdReply (some (l.drop 9))).st (rdReply (some (l.drop 9))).cd (rdReply (some (l.drop 9))).v.size (rdReply (some (l.drop 9))).ld)) := by rw [hC0, hleft, if_neg (fun h => h rfl), if_pos hf]
          rw [e]
          exact specDecReply_fault a c l w hv hc h0 hf hleft
  · have e : repC l = (openC l 8 8, 0) := by unfold repC decC; rw [if_pos h0]
    rw [e]
    unfold repAns
    rw [if_neg h0]
    exact specDecReply_closed a c l w hv hc h0
end Go.Proofs.YtafmjckpbcijoaaGreatDoor
