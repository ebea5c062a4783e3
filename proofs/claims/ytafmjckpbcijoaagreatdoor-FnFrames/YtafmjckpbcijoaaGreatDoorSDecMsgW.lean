/-
  spec.DecodeMsg, the whole.
-/
import Derived.Test.YtafmjckpbcijoaaGreatDoorSDecMsgM
import Derived.Test.YtafmjckpbcijoaaGreatDoorSDecMsgE
namespace Go.Proofs.YtafmjckpbcijoaaGreatDoor
open Go.RowKit
set_option linter.unusedVariables false

theorem specDecMsg_any (a : Option Addr) (len c : Nat) (l : List Int) (w : World) (hv : Bs w (.slice a len c) l) (hc : len ≤ c) :
    Calls Tryz.prog 42 #[.slice a len c] w fun e w' => ∃ ev, e = .returned (msgAns (msgC l) (l[8]?.getD 0) (rdMsg (some (l.drop 9))) ev) ∧ OwnE w' w.heap.size ev (msgEs (msgC l) (rdMsg (some (l.drop 9)))) ∧ Below w.heap.size w w' := by
  have el : len = l.length := by obtain ⟨_, _, _, _, e, _⟩ := hv; injection e
  subst el
  by_cases h0 : openC l 1 6 = 0
  · by_cases h32 : 32 < (rdNum (numsK (some (l.drop 9)) 8).2).1
    · have hleft : (rdMsg (some (l.drop 9))).left = none := by
        have e : rdEnts (numsK (some (l.drop 9)) 8).2 = ([], none) := by unfold rdEnts; rw [if_pos h32]
        exact congrArg Prod.snd e
      obtain ⟨hA, hE⟩ := msg5 l h0 (by rw [hleft]; simp)
      refine (specDecMsg_many a c l w hv hc h0 h32).mono ?_
      rintro e w' ⟨ev, rfl, ho, hb⟩
      exact ⟨ev, by rw [hA], by rw [hE]; exact ho, hb⟩
    · have h9 := (openC_len h0).1
      obtain ⟨_, _, a', c', e, hcell⟩ := id hv
      injection e with e1 _ e3
      subst e1 e3
      obtain ⟨db, off, rfl, _⟩ := hcell 0 (by omega)
      exact specDecMsg_few db off c l w hv hc h0 h32
  · have e : msgC l = (openC l 1 6, 0) := by unfold msgC decC; rw [if_pos h0]
    rw [e]
    unfold msgAns msgEs
    simp only [if_neg h0]
    exact specDecMsg_closed a c l w hv hc h0
end Go.Proofs.YtafmjckpbcijoaaGreatDoor
