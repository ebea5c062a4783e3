/-
  A frame that is laid is a good one (pure).
-/
import Derived.Test.YtafmjckpbcijoaaGreatDoorSeal
import Derived.Test.YtafmjckpbcijoaaGreatDoorGround
namespace Go.Proofs.YtafmjckpbcijoaaGreatDoor
open Go.RowKit
set_option linter.unusedVariables false
set_option linter.unusedSimpArgs false

theorem wordL_len (n : Nat) : (wordL n).length = 4 := by simp [wordL]
theorem wordN_word (n : Nat) (h : n < 4294967296) (r : List Int) : wordN (wordL n ++ r) 0 = n := by
  unfold wordN wordL
  simp
  omega
theorem wordN_word4 (m n : Nat) (h : n < 4294967296) (r : List Int) : wordN (wordL m ++ (wordL n ++ r)) 4 = n := by
  unfold wordN wordL
  simp
  omega
theorem frameL_len (b : List Int) : (frameL b).length = 8 + b.length := by
  unfold frameL
  simp [wordL_len]
  omega
theorem sum_frame (b : List Int) (h8 : ∀ x ∈ b, 0 ≤ x ∧ x ≤ 255) (h1 : 0 < b.length) (h2 : b.length ≤ 16376) : sumC (frameL b) = 0 := by
  have hl := frameL_len b
  have hw : wordN (frameL b) 0 = b.length := by
    unfold frameL
    rw [List.append_assoc]
    exact wordN_word b.length (by omega) _
  have hc : wordN (frameL b) 4 = crcOf b := by
    unfold frameL
    rw [List.append_assoc]
    exact wordN_word4 b.length (crcOf b) (crcOf_lt b h8) _
  have hd : (frameL b).drop 8 = b := by
    unfold frameL
    rw [List.drop_append_of_le_length (by simp [wordL_len]), List.drop_of_length_le (by simp [wordL_len])]
    rfl
  unfold sumC
  rw [hd, hw, hc, if_neg (by omega), if_neg (by omega), if_neg (by simp)]
theorem frame_8 (b : List Int) (h1 : 0 < b.length) : (frameL b)[8]?.getD 0 = b[0]?.getD 0 ∧ (frameL b).drop 9 = b.drop 1 := by
  have hl : (wordL b.length ++ wordL (crcOf b)).length = 8 := by simp [wordL_len]
  refine ⟨?_, ?_⟩
  · unfold frameL
    rw [List.getElem?_append_right (by omega), hl]
  · unfold frameL
    rw [List.drop_append, hl, List.drop_of_length_le (by omega)]
    simp
end Go.Proofs.YtafmjckpbcijoaaGreatDoor
