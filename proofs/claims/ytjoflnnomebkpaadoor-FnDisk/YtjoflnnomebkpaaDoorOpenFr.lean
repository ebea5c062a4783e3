/-
  impl.openFrame.
-/
import Derived.Test.YtjoflnnomebkpaaDoorOpen
namespace Go.Proofs.YtjoflnnomebkpaaDoor
open Go.RowKit
set_option linter.unusedVariables false

/-- the code of a frame, but for its kind -/
def sumC (l : List Int) : Nat :=
  if ¬ (9 ≤ l.length ∧ l.length ≤ 16384) then 1
  else if wordN l 0 ≠ (l.length : Int) - 8 then 2
  else if wordN l 4 ≠ (crcOf (l.drop 8) : Nat) then 3 else 0

theorem sumC_len {l : List Int} (h : sumC l = 0) : 9 ≤ l.length ∧ l.length ≤ 16384 := by
  unfold sumC at h
  split at h
  · cases h
  · omega

set_option maxHeartbeats 4000000 in
set_option maxRecDepth 100000 in
theorem openFrame_any (a : Option Addr) (len c : Nat) (l : List Int) (w : World) (A : Nat → Addr) (B : Nat) (hs : Sents w A B) (hv : Bs w (.slice a len c) l) (hc : len ≤ c) (D : Nat) (hD : 0 < l.length → ∃ x, a = some x ∧ x.block < D) :
    Calls Tryd.prog 117 #[.slice a len c] w fun e w' =>
      e = .returned (if sumC l = 0 then .tuple #[sliced a 8 len c 1, .nilIface] else .tuple #[.slice none 0 0, refV (A (sumC l)) 0]) ∧ Below w.heap.size w w' := by
  have HV : Hid (Bs w (.slice a len c) l) := hv
  have el : len = l.length := by obtain ⟨_, _, _, _, e, _⟩ := hv; injection e
  have hml := hv.1
  unfold maxLen at hml
  subst el
  clear hv
  by_cases h1 : 9 ≤ l.length ∧ l.length ≤ 16384
  · have t1 : ∀ wx, (Instr.slice 22 (.slice a l.length c) (some (.int .i64 8)) none none).run Tryd.prog wx = .ok (sliced a 8 l.length c 1) wx := slice_l a l.length c 8 (by omega)
    have hin : inB l.length 9 16384 = true := by rw [inB_iff]; omega
    have hd := HV.out.drop hc hD 8 (by omega)
    obtain ⟨a2, n2, c2, e2, _, _⟩ := hd.2
    rw [e2] at t1 hd ⊢
    have e3 : n2 = l.length - 8 := by
      obtain ⟨_, _, _, _, e, _⟩ := hd.1
      injection e with _ e _
      rw [e, List.length_drop]
    subst e3
    have HD : Hid (Bs w (.slice a2 (l.length - 8) c2) (l.drop 8)) := hd.1
    clear hd e2
    have g2 := hs.g2
    have g3 := hs.g3
    have hsub : ((l.length - 8 : Nat) : Int) = (l.length : Int) - 8 := by omega
    have y1 : True := trivial
    have hcr : crcOf (l.drop 8) < 4294967296 := xor_lt _ _ (crcSt_lt (l.drop 8) HD.out.2.1 _) (by decide)
    have hS : sumC l = if wordN l 0 ≠ (l.length : Int) - 8 then 2 else if wordN l 4 ≠ (crcOf (l.drop 8) : Nat) then 3 else 0 := by
      unfold sumC
      rw [if_neg (fun h => h h1)]
    have HW0 : ∀ w' : World, Bs w' (.slice a l.length c) l → Hid (Calls Tryd.prog 131 #[.slice a l.length c, .int .i64 0] w' fun e w'' => e = .returned (.int .u32 (wordN l 0)) ∧ Below w'.heap.size w' w'') := fun w' h => wordAt0 _ l w' h (by omega)
    have HW4 : ∀ w' : World, Bs w' (.slice a l.length c) l → Hid (Calls Tryd.prog 131 #[.slice a l.length c, .int .i64 4] w' fun e w'' => e = .returned (.int .u32 (wordN l 4)) ∧ Below w'.heap.size w' w'') := fun w' h => wordAt4 _ l w' h (by omega)
    have HC : ∀ w' : World, Bs w' (.slice a2 (l.length - 8) c2) (l.drop 8) → Hid (Calls Tryd.prog 110 #[.slice a2 (l.length - 8) c2] w' fun e w'' => e = .returned (.int .u32 (crcOf (l.drop 8) : Nat)) ∧ w'' = w') := fun w' h => implCrc_any _ _ w' h
    generalize crcOf (l.drop 8) = cr at hcr hS HC
    generalize wordN l 0 = w0 at hS HW0
    generalize wordN l 4 = w4 at hS HW4
    by_cases h2 : w0 = (l.length : Int) - 8
    · by_cases h3 : w4 = (cr : Nat)
      · have hsc : sumC l = 0 := by simp [hS, h2, h3]
        rw [if_pos hsc]
        go_enter Tryd.func117, Tryd.ntmps117
        go_wp2_with (first
          | (go_at_call 84; refine (within_any _ _ _ _).mono ?_; rw [hin]; rintro e w1 ⟨rfl, rfl⟩)
          | (go_at_call 131; clear y1; refine (HW0 _ HV.out).out.mono ?_; rw [h2]; rintro e w1 ⟨rfl, hb1⟩)
          | (go_at_call 131; refine (HW4 _ (HV.out.below hb1)).out.mono ?_; rw [h3]; rintro e w2 ⟨rfl, hb2⟩; have hB := hb1.trans (hb2.mono hb1.size))
          | (go_at_call 110; refine (HC _ (HD.out.below hB)).out.mono ?_; rintro e w3 ⟨rfl, rfl⟩))
        go_ret2
        exact ⟨rfl, hB⟩
      · have hsc : sumC l = 3 := by simp [hS, h2, h3]
        rw [hsc]
        simp only [Nat.succ_ne_zero, if_false]
        have n3 : (w4 != (cr : Int)) = true := by simpa using h3
        go_enter Tryd.func117, Tryd.ntmps117
        go_wp2_with (first
          | (go_at_call 84; refine (within_any _ _ _ _).mono ?_; rw [hin]; rintro e w1 ⟨rfl, rfl⟩)
          | (go_at_call 131; clear y1; refine (HW0 _ HV.out).out.mono ?_; rw [h2]; rintro e w1 ⟨rfl, hb1⟩)
          | (go_at_call 131; refine (HW4 _ (HV.out.below hb1)).out.mono ?_; rintro e w2 ⟨rfl, hb2⟩; have hB := hb1.trans (hb2.mono hb1.size); have g3' := (hs.below hB).g3)
          | (go_at_call 110; refine (HC _ (HD.out.below hB)).out.mono ?_; rintro e w3 ⟨rfl, rfl⟩))
        go_quiet (fail)
        go_wp2
        go_ret2
        exact ⟨rfl, ⟨hB.os, hB.tape, hB.output, hB.size, hB.block⟩⟩
    · have hsc : sumC l = 2 := by simp [hS, h2]
      rw [hsc]
      simp only [Nat.succ_ne_zero, if_false]
      have n2 : (w0 != (l.length : Int) - 8) = true := by simpa using h2
      go_enter Tryd.func117, Tryd.ntmps117
      go_wp2_with (first
        | (go_at_call 84; refine (within_any _ _ _ _).mono ?_; rw [hin]; rintro e w1 ⟨rfl, rfl⟩)
        | (go_at_call 131; clear y1; refine (HW0 _ HV.out).out.mono ?_; rintro e w1 ⟨rfl, hb1⟩; have g2' := (hs.below hb1).g2))
      go_quiet (fail)
      go_wp2
      go_ret2
      exact ⟨rfl, ⟨hb1.os, hb1.tape, hb1.output, hb1.size, hb1.block⟩⟩
  · have hsc : sumC l = 1 := by simp [sumC, h1]
    rw [hsc]
    simp only [Nat.succ_ne_zero, if_false]
    have hin : inB l.length 9 16384 = false := by rw [inB_not]; omega
    have g1 := hs.g1
    go_enter Tryd.func117, Tryd.ntmps117
    go_wp2_with (go_at_call 84; refine (within_any _ _ _ _).mono ?_; rw [hin]; rintro e w1 ⟨rfl, rfl⟩)
    go_quiet (fail)
    go_wp2
    go_ret2
    exact ⟨rfl, rfl, rfl, rfl, Nat.le_refl _, fun _ _ => rfl⟩
end Go.Proofs.YtjoflnnomebkpaaDoor
