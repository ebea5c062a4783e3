/-
  impl.firstFrame.
-/
import Derived.Test.YtjoflnnomebkpaaDoorGround
namespace Go.Proofs.YtjoflnnomebkpaaDoor
open Go.RowKit
set_option linter.unusedVariables false
set_option linter.unusedSimpArgs false

theorem wordN_bounds (l : List Int) (h8 : ∀ x ∈ l, 0 ≤ x ∧ x ≤ 255) (i : Nat) : 0 ≤ wordN l i ∧ wordN l i ≤ 4294967295 := by
  have b0 := byte_at h8 i
  have b1 := byte_at h8 (i + 1)
  have b2 := byte_at h8 (i + 2)
  have b3 := byte_at h8 (i + 3)
  unfold wordN
  omega
set_option maxHeartbeats 4000000 in
set_option maxRecDepth 100000 in
theorem firstFrame_any (a : Option Addr) (c : Nat) (l : List Int) (w : World) (A : Nat → Addr) (B : Nat) (hs : Sents w A B) (hv : Bs w (.slice a l.length c) l) (hc : l.length ≤ c) :
    Calls Tryd.prog 116 #[.slice a l.length c] w fun e w' => e = .returned (if cutC l = 0 then .tuple #[.slice a (cutN l) c, .nilIface] else .tuple #[.slice none 0 0, refV (A (cutC l + 6)) 0]) ∧ Below w.heap.size w w' := by
  have hml := hv.1
  unfold maxLen at hml
  by_cases h1 : l.length ≤ 8
  · have hC : cutC l = 1 := by simp [cutC, h1]
    rw [hC]
    simp only [Nat.succ_ne_zero, if_false, Nat.reduceAdd]
    have g7 := hs.g7
    have h1' : (l.length : Int) ≤ 8 := by omega
    clear hv
    go_enter Tryd.func116, Tryd.ntmps116
    go_wp2
    go_quiet (fail)
    go_wp2
    go_ret2
    exact ⟨rfl, rfl, rfl, rfl, Nat.le_refl _, fun _ _ => rfl⟩
  have HW0 : Hid (Calls Tryd.prog 131 #[.slice a l.length c, .int .i64 0] w fun e w'' => e = .returned (.int .u32 (wordN l 0)) ∧ Below w.heap.size w w'') := wordAt0 _ l w hv (by omega)
  have hwb := wordN_bounds l hv.2.1 0
  have hC : cutC l = if inB (8 + wordN l 0) 9 16384 = false then 2 else if (l.length : Int) < 8 + wordN l 0 then 1 else 0 := by unfold cutC; rw [if_neg h1]
  have hN : cutN l = (8 + wordN l 0).toNat := rfl
  obtain ⟨b, off, ea, _⟩ := (show ∃ b off, a = some ⟨b, off, none⟩ ∧ True from by
    obtain ⟨_, _, a', c', e, hcell⟩ := hv
    injection e with e1 e2 e3
    subst e1
    obtain ⟨b, off, rfl, _⟩ := hcell 0 (by omega)
    exact ⟨b, off, rfl, trivial⟩)
  subst ea
  clear hv
  have h1' : ¬ (l.length : Int) ≤ 8 := by omega
  generalize wordN l 0 = w0 at *
  cases h2 : inB (8 + w0) 9 16384
  · have hC' : cutC l = 2 := by rw [hC, if_pos h2]
    rw [hC']
    simp only [Nat.succ_ne_zero, if_false, Nat.reduceAdd]
    clear hC hC' hN
    go_enter Tryd.func116, Tryd.ntmps116
    go_wp2_with (first
      | (go_at_call 131; refine Calls.mono HW0.out ?_; rintro e w1 ⟨rfl, hb⟩; have g8 := (hs.below hb).g8)
      | (go_at_call 84; refine (within_any _ _ _ _).mono ?_; rw [h2]; rintro e w2 ⟨rfl, rfl⟩))
    go_quiet (fail)
    go_wp2
    go_ret2
    exact ⟨rfl, ⟨hb.os, hb.tape, hb.output, hb.size, hb.block⟩⟩
  have h2' := (inB_iff _ _ _).1 h2
  by_cases h3 : (l.length : Int) < 8 + w0
  · have hC' : cutC l = 1 := by rw [hC, if_neg (by simp [h2]), if_pos h3]
    rw [hC']
    simp only [Nat.succ_ne_zero, if_false, Nat.reduceAdd]
    clear hC hC' hN
    go_enter Tryd.func116, Tryd.ntmps116
    go_wp2_with (first
      | (go_at_call 131; refine Calls.mono HW0.out ?_; rintro e w1 ⟨rfl, hb⟩; have g7 := (hs.below hb).g7)
      | (go_at_call 84; refine (within_any _ _ _ _).mono ?_; rw [h2]; rintro e w2 ⟨rfl, rfl⟩))
    go_quiet (fail)
    go_wp2
    go_ret2
    exact ⟨rfl, ⟨hb.os, hb.tape, hb.output, hb.size, hb.block⟩⟩
  · have hC' : cutC l = 0 := by rw [hC, if_neg (by simp [h2]), if_neg h3]
    rw [if_pos hC']
    obtain ⟨k, rfl⟩ : ∃ k : Nat, w0 = k := ⟨w0.toNat, by omega⟩
    have hN' : cutN l = 8 + k := by rw [hN]; omega
    rw [hN']
    have t1 : ∀ wx, (Instr.slice 22 (.slice (some ⟨b, off, none⟩) l.length c) none (some (.int .i64 (8 + (k : Int)))) none).run Tryd.prog wx = .ok (.slice (some ⟨b, off, none⟩) (8 + k) c) wx := fun wx => by
      have := slice_h (some ⟨b, off, none⟩) l.length c (8 + k) (by omega) wx
      simpa [sliced, Addr.add, show c ≠ 0 by omega] using this
    clear hC hC' hN hN'
    go_enter Tryd.func116, Tryd.ntmps116
    go_wp2_with (first
      | (go_at_call 131; refine Calls.mono HW0.out ?_; rintro e w1 ⟨rfl, hb⟩)
      | (go_at_call 84; refine (within_any _ _ _ _).mono ?_; rw [h2]; rintro e w2 ⟨rfl, rfl⟩))
    go_ret2
    exact ⟨rfl, hb⟩
end Go.Proofs.YtjoflnnomebkpaaDoor
