/-
  impl.callFault.
-/
import Derived.Test.YtabnanmfojppjaaDoorCmd
namespace Go.Proofs.YtabnanmfojppjaaDoor
open Go.RowKit
set_option linter.unusedVariables false

/-- the fault of a call -/
def callF (cl sq op k v o : Int) : Int := if cmdF cl sq op k v o = 0 ∧ op = 0 then 1 else cmdF cl sq op k v o

set_option maxHeartbeats 1000000 in
theorem callFault_any (cl sq op : Int) (k v o : ByteArray) (hk : k.size ≤ maxLen) (hv : v.size ≤ maxLen) (ho : o.size ≤ maxLen) (w : World) :
    Calls Tryd.prog 64 #[.agg #[.int .i64 cl, .int .i64 sq, .int .i64 op, .string k, .string v, .string o]] w fun e w' =>
      e = .returned (.int .i64 (callF cl sq op k.size v.size o.size)) ∧ Below w.heap.size w w' := by
  by_cases h0 : cmdF cl sq op k.size v.size o.size = 0
  · by_cases h1 : op = 0
    · have e : callF cl sq op k.size v.size o.size = 1 := by rw [callF, if_pos ⟨h0, h1⟩]
      rw [e]
      subst h1
      go_enter Tryd.func64, Tryd.ntmps64
      go_wp2_with (go_at_call 67; refine (implCmdFault_any cl sq 0 k v o hk hv ho _).mono ?_; rintro e w1 ⟨rfl, hb⟩; obtain ⟨hc, hf⟩ := bcell hb)
      go_ret
      exact ⟨rfl, ((Below.refl _ _).alloc (Nat.le_refl _) _).trans (hb.mono (by simp))⟩
    · have e : callF cl sq op k.size v.size o.size = 0 := by rw [callF, if_neg (fun h => h1 h.2), h0]
      have n1 : (op == 0) = false := by simpa using h1
      rw [e]
      go_enter Tryd.func64, Tryd.ntmps64
      go_wp2_with (go_at_call 67; refine (implCmdFault_any cl sq op k v o hk hv ho _).mono ?_; rintro e w1 ⟨rfl, hb⟩; obtain ⟨hc, hf⟩ := bcell hb)
      go_ret
      exact ⟨rfl, ((Below.refl _ _).alloc (Nat.le_refl _) _).trans (hb.mono (by simp))⟩
  · have e : callF cl sq op k.size v.size o.size = cmdF cl sq op k.size v.size o.size := by rw [callF, if_neg (fun h => h0 h.1)]
    rw [e]
    generalize hX : cmdF cl sq op k.size v.size o.size = X at h0
    have HX : Hid (cmdF cl sq op k.size v.size o.size = X) := hX
    have n0 : (X == 0) = false := by simpa using h0
    clear hX
    go_enter Tryd.func64, Tryd.ntmps64
    go_wp2_with (go_at_call 67; refine (implCmdFault_any cl sq op k v o hk hv ho _).mono ?_; rintro e w1 ⟨rfl, hb⟩; rw [HX.out]; obtain ⟨hc, hf⟩ := bcell hb)
    go_ret
    exact ⟨rfl, ((Below.refl _ _).alloc (Nat.le_refl _) _).trans (hb.mono (by simp))⟩

end Go.Proofs.YtabnanmfojppjaaDoor
