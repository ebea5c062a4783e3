/-
  impl.EncodeRecords.
-/
import Derived.Test.YtjoflnnomebkpaaDoorGround2
namespace Go.Proofs.YtjoflnnomebkpaaDoor
open Go.RowKit
set_option linter.unusedVariables false

set_option maxHeartbeats 4000000 in
set_option maxRecDepth 100000 in
theorem encodeRecords_any (v : Value) (l : List Rec) (w : World) (hv : Sl Rec.cells 11 w v l) (hf : ∀ r ∈ l, r.e.fits) (A : Addr) (hG : w.cell? ⟨0, 0, none⟩ = some (sentR A)) :
    Calls Tryd.prog 11 #[v] w fun e w' => ∃ v', e = .returned v' ∧ Own w' w.heap.size v' (encRecs l) ∧ Below w.heap.size w w' := by
  have HF := framesOf_any v l w hv hf A hG
  cases hR : recsB l
  · have e : encRecs l = [] := by simp [encRecs, hR]
    rw [e]
    have HF' : Hid (Calls Tryd.prog 48 #[v] w fun x w' => x = .returned (.tuple #[.slice none 0 0, .iface 124 (.agg #[sentR A, .int .i64 0])]) ∧ Below w.heap.size w w') := HF.mono fun x w' h => by
      rcases h with ⟨⟨h1, _⟩ | ⟨_, h2⟩, h3⟩
      · rw [hR] at h1; cases h1
      · exact ⟨h2, h3⟩
    clear HF e
    go_enter Tryd.func11, Tryd.ntmps11
    go_wp2_with (go_at_call 48; refine Calls.mono HF'.out ?_; rintro x w1 ⟨rfl, hb⟩)
    go_ret
    exact ⟨_, rfl, Own.nil _ _, hb⟩
  · have e : encRecs l = framesL l := by simp [encRecs, hR]
    rw [e]
    have HF' : Hid (Calls Tryd.prog 48 #[v] w fun x w' => (∃ v', x = .returned (.tuple #[v', .nilIface]) ∧ Own w' w.heap.size v' (framesL l)) ∧ Below w.heap.size w w') := HF.mono fun x w' h => by
      rcases h with ⟨⟨_, h1⟩ | ⟨h2, _⟩, h3⟩
      · exact ⟨h1, h3⟩
      · rw [hR] at h2; cases h2
    clear HF e
    go_enter Tryd.func11, Tryd.ntmps11
    go_wp2_with (go_at_call 48; refine Calls.mono HF'.out ?_; rintro x w1 ⟨⟨v1, rfl, ho⟩, hb⟩)
    go_ret
    exact ⟨_, rfl, ho, hb⟩
end Go.Proofs.YtjoflnnomebkpaaDoor
