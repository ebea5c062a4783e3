/-
  laws.szRecordS, with any allowance.
-/
import Derived.Test.YtmbiccmndcchhagDoorRecLaw
namespace Go.Proofs.YtmbiccmndcchhagDoor
open Go.RowKit
set_option linter.unusedVariables false
set_option linter.unusedSimpArgs false

set_option maxHeartbeats 2000000 in
set_option maxRecDepth 100000 in
theorem szRecordS_left (v : Value) (l : List Rec) (w : World) (hv : Sl Rec.cells 11 w v l) (hf : ∀ r ∈ l, r.e.fits) (left : Int) (h0 : 0 ≤ left) (h1 : left ≤ 1048576) :
    Calls Tryd.prog 23 #[v, .int .i64 left] w fun r w' =>
      (∃ s : Int, r = .returned (.int .i64 s) ∧ s ≤ 1048576 ∧ (0 ≤ s → l.length ≤ 1048576)) ∧ Below w.heap.size w w' := by
  obtain ⟨hl, a, cap, rfl, hc⟩ := hv
  unfold maxLen at hl
  go_enter Tryd.func23, Tryd.ntmps23
  go_wp2
  · go_ret
    exact ⟨⟨_, rfl, by omega, by omega⟩, Below.refl _ _⟩
  · go_loopw [1, 5] (fun s i wr => ∃ (k : Nat) (x : Int), k ≤ l.length ∧ i = .int .i64 k ∧ s = .int .i64 x ∧ 0 ≤ x ∧ x ≤ 1048576 ∧ Below w.heap.size w wr) (fun _ i _ => l.length - (intOf i).toNat)
    case atStart => exact ⟨0, _, Nat.zero_le _, rfl, rfl, by omega, by omega, Below.refl _ _⟩
    case round =>
      obtain ⟨k, x, hk, rfl, rfl, hx, hx', hB⟩ := hrel
      by_cases hlt : k < l.length
      · obtain ⟨b, off, rfl, hj⟩ := hc k hlt
        have hra := range_below (hj k hlt) hB
        have hfk := hf l[k] (List.getElem_mem hlt)
        have hsz := hB.size
        clear hc hj
        go_wp2_with (first
          | (refine gate_load' 88 (.tmp 20) rfl ?_; refine wpList_load_mid rfl 88 (.tmp 20) rfl b (off + k * 11) rfl l[k].cells _ hra Tryd.underlying88 rfl sizeRecL ?_)
          | (go_at_call 54; refine (szRecord_any l[k] _ hx hx' hfk _).mono ?_; rintro r w1 ⟨⟨s, rfl, hs⟩, hb⟩))
        · go_ret
          exact ⟨⟨_, rfl, by omega, by omega⟩, hB.trans (hb.mono (by omega))⟩
        · go_roundw
          case rel => exact ⟨k + 1, s, by omega, by go_num, rfl, by omega, by omega, hB.trans (hb.mono (by omega))⟩
          case measure => simp [intOf]; omega
      · go_wp2
        go_ret
        exact ⟨⟨_, rfl, by omega, by omega⟩, hB⟩

end Go.Proofs.YtmbiccmndcchhagDoor
