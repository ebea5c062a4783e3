/-
  spec.DecodeCall, whole.
-/
import Derived.Test.YtafmjckpbcijoaaGreatDoorSDecCallA
import Derived.Test.YtafmjckpbcijoaaGreatDoorSDecCallB
import Derived.Test.YtafmjckpbcijoaaGreatDoorSDecCallC
import Derived.Test.YtafmjckpbcijoaaGreatDoorSDecCallD
import Derived.Test.YtafmjckpbcijoaaGreatDoorSDecCallE
namespace Go.Proofs.YtafmjckpbcijoaaGreatDoor
open Go.RowKit
set_option linter.unusedVariables false
set_option linter.unusedSimpArgs false

theorem specDecCall_any (a : Option Addr) (len c : Nat) (l : List Int) (w : World) (hv : Bs w (.slice a len c) l) (hc : len ≤ c) :
    Calls Tryz.prog 44 #[.slice a len c] w fun e w' => e = .returned (callAns (callC l) (rdCmd (some (l.drop 9)))) ∧ Below w.heap.size w w' := by
  have el : len = l.length := by obtain ⟨_, _, _, _, e, _⟩ := hv; injection e
  subst el
  by_cases h0 : openC l 7 7 = 0
  · have hC0 : callC l = if (rdCmd (some (l.drop 9))).left ≠ some [] then (5, 0) else if (callF (rdCmd (some (l.drop 9))).cl (rdCmd (some (l.drop 9))).sq (rdCmd (some (l.drop 9))).op (rdCmd (some (l.drop 9))).k.size (rdCmd (some (l.drop 9))).v.size (rdCmd (some (l.drop 9))).o.size) ≠ 0 then (6, (callF (rdCmd (some (l.drop 9))).cl (rdCmd (some (l.drop 9))).sq (rdCmd (some (l.drop 9))).op (rdCmd (some (l.drop 9))).k.size (rdCmd (some (l.drop 9))).v.size (rdCmd (some (l.drop 9))).o.size)) else (0, 0) := by
      unfold callC decC
      rw [if_neg (fun h => h h0)]
    rcases hleft : (rdCmd (some (l.drop 9))).left with _ | l'
    · have e : callC l = (5, 0) := by rw [hC0, hleft]; rfl
      rw [e]
      exact specDecCall_bad a c l w hv hc h0 hleft
    · cases l' with
      | cons x t =>
        have e : callC l = (5, 0) := by rw [hC0, hleft]; rfl
        rw [e]
        exact specDecCall_long a c l w hv hc h0 x t hleft
      | nil =>
        by_cases hf : (cmdF (rdCmd (some (l.drop 9))).cl (rdCmd (some (l.drop 9))).sq (rdCmd (some (l.drop 9))).op (rdCmd (some (l.drop 9))).k.size (rdCmd (some (l.drop 9))).v.size (rdCmd (some (l.drop 9))).o.size) = 0
        · by_cases ho : (rdCmd (some (l.drop 9))).op = 0
          · have eF : (callF (rdCmd (some (l.drop 9))).cl (rdCmd (some (l.drop 9))).sq (rdCmd (some (l.drop 9))).op (rdCmd (some (l.drop 9))).k.size (rdCmd (some (l.drop 9))).v.size (rdCmd (some (l.drop 9))).o.size) = 1 := by rw [callF, if_pos ⟨hf, by omega⟩]
            have e : callC l = (6, 1) := by rw [hC0, hleft, if_neg (fun h => h rfl), eF]; rfl
            rw [e]
            exact specDecCall_noop a c l w hv hc h0 hf ho hleft
          · have eF : (callF (rdCmd (some (l.drop 9))).cl (rdCmd (some (l.drop 9))).sq (rdCmd (some (l.drop 9))).op (rdCmd (some (l.drop 9))).k.size (rdCmd (some (l.drop 9))).v.size (rdCmd (some (l.drop 9))).o.size) = 0 := by rw [callF, if_neg (fun h => ho (by omega)), hf]
            have e : callC l = (0, 0) := by rw [hC0, hleft, if_neg (fun h => h rfl), if_neg (fun h => h eF)]
            rw [e]
            exact specDecCall_good a c l w hv hc h0 hf ho hleft
        · have eF : (callF (rdCmd (some (l.drop 9))).cl (rdCmd (some (l.drop 9))).sq (rdCmd (some (l.drop 9))).op (rdCmd (some (l.drop 9))).k.size (rdCmd (some (l.drop 9))).v.size (rdCmd (some (l.drop 9))).o.size) = (cmdF (rdCmd (some (l.drop 9))).cl (rdCmd (some (l.drop 9))).sq (rdCmd (some (l.drop 9))).op (rdCmd (some (l.drop 9))).k.size (rdCmd (some (l.drop 9))).v.size (rdCmd (some (l.drop 9))).o.size) := by rw [callF, if_neg (fun h => hf h.1)]
          have e : callC l = (6, (cmdF (rdCmd (some (l.drop 9))).cl (rdCmd (some (l.drop 9))).sq (rdCmd (some (l.drop 9))).op (rdCmd (some (l.drop 9))).k.size (rdCmd (some (l.drop 9))).v.size (rdCmd (some (l.drop 9))).o.size)) := by rw [hC0, hleft, if_neg (fun h => h rfl), eF, if_pos hf]
          rw [e]
          exact specDecCall_fault a c l w hv hc h0 hf hleft
  · have e : callC l = (openC l 7 7, 0) := by unfold callC decC; rw [if_pos h0]
    rw [e]
    unfold callAns
    rw [if_neg h0]
    exact specDecCall_closed a c l w hv hc h0
end Go.Proofs.YtafmjckpbcijoaaGreatDoor
