/-
  laws.szEntryS, with any allowance.
-/
import Derived.Test.YtelfejhopjbhpaaEnts
namespace Go.Proofs.Ytelfejhopjbhpaa
open Go.RowKit
set_option linter.unusedVariables false
set_option linter.unusedSimpArgs false

set_option maxHeartbeats 2000000 in
theorem szEntryS_left (v : Value) (l : List Ent) (w : World) (hv : Es w v l) (left : Int) (h0 : 0 ≤ left) (h1 : left ≤ 1048576) :
    Calls Try.prog 11 #[v, .int .i64 left] w fun r w' =>
      (∃ s : Int, r = .returned (.int .i64 s) ∧ s ≤ 1048576 ∧ (0 ≤ s → l.length ≤ 1048576)) ∧ Below w.heap.size w w' := by
  have hV : Hid (Es w v l) := hv
  obtain ⟨hl, hf, a, cap, rfl, hc⟩ := hv
  unfold maxLen at hl
  go_enter Try.func11, Try.ntmps11
  go_wp2
  · go_ret
    exact ⟨⟨_, rfl, by omega, by omega⟩, Below.refl _ _⟩
  · go_loopw [1, 5] (fun s i wr => ∃ (k : Nat) (x : Int), k ≤ l.length ∧ i = .int .i64 k ∧ s = .int .i64 x ∧ 0 ≤ x ∧ x ≤ 1048576 ∧ Below w.heap.size w wr) (fun _ i _ => l.length - (intOf i).toNat)
    case atStart => exact ⟨0, _, Nat.zero_le _, rfl, rfl, by omega, by omega, Below.refl _ _⟩
    case round =>
      obtain ⟨k, x, hk, rfl, rfl, hx, hx', hB⟩ := hrel
      by_cases hlt : k < l.length
      · obtain ⟨b, off, rfl, hj⟩ := hc k hlt
        obtain ⟨c0, c1, c2, c3, c4, c5, c6⟩ := (hj k hlt).below hB
        have hfk := hf l[k] (List.getElem_mem hlt)
        have hsz := hB.size
        clear hc hj
        go_wp2_with (go_at_call 36; refine (szEntry_any l[k] _ hx hx' hfk _).mono ?_; rintro r w1 ⟨⟨s, rfl, hs⟩, hb⟩)
        · go_ret
          exact ⟨⟨_, rfl, by omega, by omega⟩, hB.trans (hb.mono (by omega))⟩
        · go_roundw
          case rel => exact ⟨k + 1, s, by omega, by go_num, rfl, by omega, by omega, hB.trans (hb.mono (by omega))⟩
          case measure => simp [intOf]; omega
      · go_wp2
        go_ret
        exact ⟨⟨_, rfl, by omega, by omega⟩, hB⟩
end Go.Proofs.Ytelfejhopjbhpaa
