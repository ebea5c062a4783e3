/-
  spec.l1num, spec.l1text, spec.l1four, spec.l1frame.
-/
import Derived.Test.YtfcmffdljfljkaaSeal
namespace Go.Proofs.Ytfcmffdljfljkaa
open Go.RowKit
set_option linter.unusedVariables false

set_option maxHeartbeats 1000000 in
set_option maxRecDepth 100000 in
theorem specNum_any (n : Nat) : n < 9223372036854775808 → ∀ w : World,
    Calls Try.prog 62 #[.int .i64 n] w fun e w' => ∃ v', e = .returned v' ∧ Own w' w.heap.size v' (numL n) ∧ Below w.heap.size w w' := by
  induction n using Nat.strongRecOn with
  | ind n ih =>
  intro hn w
  by_cases h : n < 128
  · clear ih
    have hO := Own.lit w [(n : Int)] #[.int .u8 (n : Int)] rfl (by simp; omega) (by simp [maxLen])
    rw [numL_small h]
    go_enter Try.func62, Try.ntmps62
    go_wp2
    go_ret
    exact ⟨_, rfl, by simpa using hO, (Below.refl _ _).alloc (Nat.le_refl _) _⟩
  · have hI : Hid (∀ w : World, Calls Try.prog 62 #[.int .i64 ((n / 128 : Nat) : Int)] w fun e w' => ∃ v', e = .returned v' ∧ Own w' w.heap.size v' (numL (n / 128)) ∧ Below w.heap.size w w') := ih (n / 128) (by omega) (by omega)
    have hO : Own (w.alloc (.cells #[.int .u8 ((n : Int) % 128 + 128)] 5)) w.heap.size (.slice (some ⟨w.heap.size, 0, none⟩) 1 1) [(n : Int) % 128 + 128] := Own.lit w [(n : Int) % 128 + 128] #[.int .u8 ((n : Int) % 128 + 128)] rfl (by simp; omega) (by simp [maxLen])
    have HO : Hid (Own (w.alloc (.cells #[.int .u8 ((n : Int) % 128 + 128)] 5)) w.heap.size (.slice (some ⟨w.heap.size, 0, none⟩) 1 1) [(n : Int) % 128 + 128]) := hO
    have eN : ((n % 128 + 128 : Nat) : Int) = (n : Int) % 128 + 128 := by omega
    have h9 := numL_len9 (n / 128) (by omega)
    have hp := numL_pos (n / 128)
    rw [numL_big h, eN]
    clear ih hO eN
    go_enter Try.func62, Try.ntmps62
    go_wp2_with (first
      | (go_at_call 62; refine Calls.mono (hI.out _) ?_; rintro e w1 ⟨v1, rfl, ho1, hb1⟩; have hz := hb1.size; simp at hz)
      | (at_builtin; refine wpl_append rfl (.tmp 18) (.tmp 19) rfl (HO.out.below hb1) rfl (ho1.bs (by unfold maxLen; omega)) rfl hp (by simp; omega) (by omega) ?_; intro v2 w2 ho2 hg2))
    go_ret
    exact ⟨_, rfl, by simpa using ho2, ((Below.refl _ _).alloc (Nat.le_refl _) _).trans ((hb1.mono (by simp)).trans (hg2.below (HO.out.below hb1) (by omega)))⟩

theorem strL_get (s : ByteArray) (k : Nat) (h : k < s.size) : (strL s).take (k + 1) = (strL s).take k ++ [((s[k]'h).toNat : Int)] := by
  rw [List.take_succ_eq_append_getElem (by rw [strL_len]; exact h)]
  congr 1
  simp [strL]
  rfl

set_option maxHeartbeats 1000000 in
set_option maxRecDepth 100000 in
theorem specText_any (s : ByteArray) (w : World) (hs : s.size ≤ 1048576) :
    Calls Try.prog 112 #[.string s] w fun e w' => ∃ v', e = .returned v' ∧ Own w' w.heap.size v' (textL s) ∧ Below w.heap.size w w' := by
  have h9 := numL_len9 s.size (by omega)
  go_enter Try.func112, Try.ntmps112
  go_wp2_with (go_at_call 62; refine (specNum_any s.size (by omega) _).mono ?_; rintro e w1 ⟨v1, rfl, ho1, hb1⟩)
  go_loopw [3, 4] (fun o i wr => ∃ k : Nat, k ≤ s.size ∧ i = .int .i64 k ∧ Own wr w.heap.size o (numL s.size ++ (strL s).take k) ∧ Below w.heap.size w wr) (fun _ i _ => s.size - (intOf i).toNat)
  case atStart => exact ⟨0, Nat.zero_le _, rfl, by simpa using ho1, hb1⟩
  case round =>
    obtain ⟨k, hk, rfl, ho, hb⟩ := hrel
    have hz := hb.size
    have hl : ((strL s).take k).length ≤ k := List.length_take_le _ _
    clear ho1 hb1
    by_cases hlt : k < s.size
    · have HS : Hid ((strL s).take (k + 1) = (strL s).take k ++ [((s[k]'hlt).toNat : Int)]) := strL_get s k hlt
      have h8 : ((s[k]'hlt).toNat : Int) ≤ 255 := by have := (s[k]'hlt).toNat_lt; omega
      go_wp2_with (at_builtin; refine wpl_append rfl (.tmp 14) (.tmp 18) rfl (ho.below ((Below.refl _ _).alloc (Nat.le_refl _) _)) rfl (Bs.one _ ((s[k]'hlt).toNat : Int) (by omega)) rfl (by simp) (by simp; omega) (by simp; omega) ?_; intro v2 w2 ho2 hg2)
      go_roundw
      case rel => exact ⟨k + 1, by omega, by go_num, by rw [HS.out, ← List.append_assoc]; exact ho2, hb.trans (((Below.refl _ _).alloc (by omega) _).trans (hg2.below (ho.below ((Below.refl _ _).alloc (Nat.le_refl _) _)) (by simp; omega)))⟩
      case measure => simp [intOf]; omega
    · have e : (strL s).take k = strL s := List.take_of_length_le (by rw [strL_len]; omega)
      rw [e] at ho
      go_wp2
      go_ret
      exact ⟨_, rfl, ho, hb⟩

theorem wordL_int (x : Nat) (hx : x < 4294967296) : wordL x = [(x : Int) % 256, (x : Int) / 256 % 256, (x : Int) / 65536 % 256, (x : Int) / 16777216] := by
  unfold wordL
  congr 4 <;> omega

set_option maxHeartbeats 1000000 in
theorem specFour_any (x : Nat) (w : World) (hx : x < 4294967296) :
    Calls Try.prog 95 #[.int .u32 x] w fun e w' => ∃ v', e = .returned v' ∧ Own w' w.heap.size v' (wordL x) ∧ Below w.heap.size w w' := by
  have hO := Own.lit w [(x : Int) % 256, (x : Int) / 256 % 256, (x : Int) / 65536 % 256, (x : Int) / 16777216] #[.int .u8 ((x : Int) % 256), .int .u8 ((x : Int) / 256 % 256), .int .u8 ((x : Int) / 65536 % 256), .int .u8 ((x : Int) / 16777216)] rfl (by intro y hy; simp only [List.mem_cons, List.not_mem_nil, or_false] at hy; omega) (by simp [maxLen])
  have HO : Hid _ := hO
  clear hO
  rw [wordL_int x hx]
  go_enter Try.func95, Try.ntmps95
  go_wp2
  go_ret
  exact ⟨_, rfl, HO.out, (Below.refl _ _).alloc (Nat.le_refl _) _⟩

end Go.Proofs.Ytfcmffdljfljkaa
