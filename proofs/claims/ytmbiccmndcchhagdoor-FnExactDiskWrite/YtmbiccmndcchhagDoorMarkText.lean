/-
  laws.markText.
-/
import Derived.Test.YtmbiccmndcchhagDoorGround
import Derived.Laws.BytesArg
namespace Go.Proofs.YtmbiccmndcchhagDoor
open Go.RowKit
set_option linter.unusedVariables false

set_option maxHeartbeats 2000000 in
set_option maxRecDepth 100000 in
theorem markText_any (k : Nat) (w : World) (hk : k ≤ 1000000000) :
    Calls Tryd.prog 57 #[.int .i64 k] w fun r w' => (∃ s : ByteArray, r = .returned (.string s)) ∧ Below w.heap.size w w' := by
  by_cases h0 : k = 0
  · subst h0
    go_enter Tryd.func57, Tryd.ntmps57
    go_wp2
    go_ret
    exact ⟨⟨_, rfl⟩, Below.refl _ _⟩
  · have hp : 0 < k := by omega
    go_enter Tryd.func57, Tryd.ntmps57
    go_wp2
    go_loopw [0, 3] (fun i s wr => ∃ (m : Nat) (t : ByteArray), i = .int .i64 m ∧ s = .string t ∧ t.size + m ≤ k ∧ Below w.heap.size w wr) (fun i _ _ => (intOf i).toNat)
    case atStart => exact ⟨k, _, rfl, rfl, by simp [ByteArray.size], Below.refl _ _⟩
    case round =>
      obtain ⟨m, t, rfl, rfl, ht, hB⟩ := hrel
      have hz := hB.size
      by_cases hlt : 0 < m
      · have hcv := run_convert_bytes_arg (P := Tryd.prog) (wr.alloc (.cells #[.int .u8 (48 + (m : Int) % 10)] 5)) 22 5 Tryd.underlying22 Tryd.underlying5 wr.heap.size 0 1 1 [48 + (m : Int) % 10] rfl
        have hs1 : ¬ (9223372036854775807 < (strOfNums [48 + (m : Int) % 10]).size + t.size) := by rw [strOfNums_size]; simp; omega
        go_wp2
        go_roundw
        case rel => exact ⟨m / 10, _, by go_num, rfl, by rw [ByteArray.size_append, strOfNums_size]; simp; omega, hB.trans ((Below.refl _ _).alloc hz _)⟩
        case measure => simp [intOf]; omega
      · have hs : ¬ (9223372036854775807 < 1 + t.size) := by omega
        go_wp2
        go_ret
        exact ⟨⟨_, rfl⟩, hB⟩

theorem markText_int (k : Int) (w : World) (h0 : 0 ≤ k) (hk : k ≤ 1000000000) :
    Calls Tryd.prog 57 #[.int .i64 k] w fun r w' => (∃ s : ByteArray, r = .returned (.string s)) ∧ Below w.heap.size w w' := by
  obtain ⟨k, rfl⟩ := Int.eq_ofNat_of_zero_le h0
  exact markText_any k w (by omega)
theorem grown_below {w w' : World} (row : Option Nat) (h : Below w.heap.size w w') : w.grownBy w' row := ⟨h.os, h.tape, h.output, h.size, fun k hk _ => h.block k hk⟩

end Go.Proofs.YtmbiccmndcchhagDoor
