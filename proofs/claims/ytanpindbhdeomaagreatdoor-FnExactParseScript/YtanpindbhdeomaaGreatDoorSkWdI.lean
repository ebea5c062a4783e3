/-
  Words: impl.isWord.
-/
import Derived.Test.YtanpindbhdeomaaGreatDoorGround
namespace Go.Proofs.YtanpindbhdeomaaGreatDoor
open Go.RowKit
set_option linter.unusedVariables false
set_option linter.unusedSimpArgs false

set_option maxHeartbeats 2000000 in
theorem isWord_any (t : ByteArray) (hl : t.size ≤ 1048576) (w : World) :
    Calls Tryz.prog 22 #[.string t] w fun e w' => e = .returned (.bool (wordB t.data.toList)) ∧ w' = w := by
  have HI : Hid (∀ k, (h : k < t.data.toList.length) → ∀ u : World, (Instr.index 9 (.string t) (.int .i64 (k : Int))).run Tryz.prog u = .ok (.int .u8 (t.data.toList[k].toNat : Int)) u) := fun k h u => idx_run t h u
  have hs := size_list t
  have HW : Hid (wordB t.data.toList = (t.data.toList.all okB && !t.data.toList.isEmpty)) := wordB_def _
  have HL : Hid (t.data.toList.isEmpty = decide (t.size = 0)) := by unfold Hid; rw [hs]; cases t.data.toList <;> simp
  have HE : Hid (t.toList.isEmpty = decide (t.size = 0)) := by unfold Hid; rw [ByteArray.toList_eq]; exact HL.out
  generalize t.data.toList = l at *
  generalize wordB l = B at *
  go_enter Tryz.func22, Tryz.ntmps22
  go_wp2
  go_loopw [6] (fun i wr => ∃ k : Nat, k ≤ l.length ∧ i = .int .i64 k ∧ (l.take k).all okB = true ∧ wr = w) (fun i _ => l.length - (intOf i).toNat)
  case atStart => exact ⟨0, Nat.zero_le _, rfl, rfl, rfl⟩
  case round =>
    obtain ⟨k, hk, rfl, hA, rfl⟩ := hrel
    have HA : Hid ((l.take k).all okB = true) := hA
    clear hA
    by_cases hlt : k < l.length
    · have hix := HI.out k hlt
      have HY : Hid (okB l[k] = (decide (33 ≤ l[k].toNat) && decide (l[k].toNat ≤ 126))) := rfl
      have HN : Hid (okB l[k] = true → (l.take (k + 1)).all okB = true) := fun h => all_take_succ hlt _ HA.out h
      have HF : Hid (okB l[k] = false → l.all okB = false) := fun h => all_no hlt _ h
      have hx256 := l[k].toNat_lt
      generalize okB l[k] = y at HY HN HF
      generalize l[k].toNat = x at hix HY hx256
      have hkl : (k : Int) < (l.length : Int) := by omega
      cases hb : inB x 33 126
      · have hy : y = false := by rw [HY.out]; unfold inB at hb; simp at hb ⊢; omega
        go_wp2_with (go_at_call 43; refine (within_any _ _ _ _).mono ?_; rintro e w' ⟨rfl, rfl⟩)
        all_goals go_ret
        all_goals exact ⟨by rw [HW.out, HF.out hy]; rfl, rfl⟩
      · have hy : y = true := by rw [HY.out]; unfold inB at hb; simp at hb ⊢; omega
        go_wp2_with (go_at_call 43; refine (within_any _ _ _ _).mono ?_; rintro e w' ⟨rfl, rfl⟩)
        go_roundw
        case rel => exact ⟨k + 1, by omega, by go_num, HN.out hy, by trivial⟩
        case measure => simp [intOf]; omega
    · obtain rfl : k = l.length := by omega
      rw [List.take_length] at HA
      go_wp2
      go_ret
      refine ⟨?_, rfl⟩
      rw [HW.out, HA.out, HL.out, HE.out]; rfl
end Go.Proofs.YtanpindbhdeomaaGreatDoor
