/-
  WindowBound, both.
-/
import Derived.Test.YtnehhpeddehoiaaSetup
namespace Go.Proofs.Ytnehhpeddehoiaa
open Go.RowKit
set_option linter.unusedVariables false
set_option linter.unusedSimpArgs false

/-- well-timed -/
def timB (s el b : Int) : Bool := decide (8 * s ≤ el) && decide (4 * b ≤ el)
/-- the bound of a window -/
def winV (s c el b r d lg dn : Int) : Int :=
  if setF s c el b r d = 0 ∧ timB s el b = true ∧ inB lg 0 4096 = true ∧ inB dn 0 (s.tdiv 2) = true then
    4 * el * (s + 4) + 4 * (lg + s + 4) + (s + dn) * (r + 4) + 40 else 0

theorem setF_ok {s c el b r d : Int} (h : setF s c el b r d = 0) :
    (s = 3 ∨ s = 5 ∨ s = 7) ∧ 2 ≤ el ∧ el ≤ 1000 ∧ 1 ≤ b ∧ b ≤ 1000 ∧ 1 ≤ r ∧ r ≤ 1000 := by
  unfold setF at h
  by_cases h1 : sizB s = false
  · simp [h1] at h
  by_cases h2 : inB c 1 8 = false
  · simp [h1, h2] at h
  by_cases h3 : inB el 2 1000 = false
  · simp [h1, h2, h3] at h
  by_cases h4 : inB b 1 el = false
  · simp [h1, h2, h3, h4] at h
  by_cases h5 : inB r 1 1000 = false
  · simp [h1, h2, h3, h4, h5] at h
  simp only [Bool.not_eq_false] at h1 h3 h4 h5
  rw [inB_iff] at h3 h4 h5
  simp [sizB, or_assoc] at h1
  omega

set_option maxHeartbeats 1000000 in
theorem wellTimed_any (s c el b r d : Int) (hs : 0 ≤ s ∧ s ≤ 10) (hb : 0 ≤ b ∧ b ≤ 1000) (w : World) :
    Calls Try.prog 24 #[.agg #[.int .i64 s, .int .i64 c, .int .i64 el, .int .i64 b, .int .i64 r, .int .i64 d]] w fun e w' =>
      e = .returned (.bool (timB s el b)) ∧ Below w.heap.size w w' := by
  obtain ⟨hs0, hs1⟩ := hs
  obtain ⟨hb0, hb1⟩ := hb
  go_enter Try.func24, Try.ntmps24
  go_wp2
  all_goals go_ret
  all_goals refine ⟨?_, (Below.refl _ _).alloc (Nat.le_refl _) _⟩
  all_goals first | (simp_all [timB]; done) | (simp_all [timB]; omega)

set_option maxHeartbeats 4000000 in
theorem windowBound_any (s c el b r d lg dn : Int) (w : World) :
    Calls Try.prog 8 #[.agg #[.int .i64 s, .int .i64 c, .int .i64 el, .int .i64 b, .int .i64 r, .int .i64 d], .int .i64 lg, .int .i64 dn] w fun e w' =>
      e = .returned (.int .i64 (winV s c el b r d lg dn)) ∧ Below w.heap.size w w' := by
  by_cases h0 : setF s c el b r d = 0
  case neg =>
    have hv : winV s c el b r d lg dn = 0 := by simp [winV, h0]
    rw [hv]
    go_enter Try.func8, Try.ntmps8
    go_wp2_with (first
      | (go_at_call 23; refine (setupFault_any s c el b r d _).mono ?_; rintro e w1 ⟨rfl, hb⟩; obtain ⟨hc, hf⟩ := bcell hb; have hB : Below w.heap.size w w1 := ((Below.refl _ _).alloc (Nat.le_refl _) _).trans (hb.mono (by simp))))
    all_goals go_ret
    all_goals exact ⟨rfl, hB⟩
  obtain ⟨hs, he0, he1, hb0, hb1, hr0, hr1⟩ := setF_ok h0
  have hd : 0 ≤ s.tdiv 2 ∧ s.tdiv 2 ≤ 3 := by rcases hs with rfl | rfl | rfl <;> decide
  by_cases ht : timB s el b = true
  case neg =>
    have hv : winV s c el b r d lg dn = 0 := by simp [winV, ht]
    rw [hv]
    go_enter Try.func8, Try.ntmps8
    go_wp2_with (first
      | (go_at_call 23; refine (setupFault_any s c el b r d _).mono ?_; rintro e w1 ⟨rfl, hb⟩; obtain ⟨hc, hf⟩ := bcell hb; have hB : Below w.heap.size w w1 := ((Below.refl _ _).alloc (Nat.le_refl _) _).trans (hb.mono (by simp)); have hz : w.heap.size < w1.heap.size := (by have := hb.size; simp at this; omega))
      | (go_at_call 24; refine (wellTimed_any s c el b r d (by omega) (by omega) _).mono ?_; rintro e w2 ⟨rfl, hb⟩; obtain ⟨hc, hf⟩ := bcell hb; replace hB := hB.trans (hb.mono (by omega))))
    all_goals go_ret
    all_goals exact ⟨rfl, hB⟩
  by_cases hl : inB lg 0 4096 = true ∧ inB dn 0 (s.tdiv 2) = true
  case neg =>
    have hv : winV s c el b r d lg dn = 0 := by simp only [winV]; rw [if_neg (fun x => hl x.2.2)]
    rw [hv]
    cases hl1 : inB lg 0 4096
    · go_enter Try.func8, Try.ntmps8
      go_wp2_with (first
        | (go_at_call 23; refine (setupFault_any s c el b r d _).mono ?_; rintro e w1 ⟨rfl, hb⟩; obtain ⟨hc, hf⟩ := bcell hb; have hB : Below w.heap.size w w1 := ((Below.refl _ _).alloc (Nat.le_refl _) _).trans (hb.mono (by simp)); have hz : w.heap.size < w1.heap.size := (by have := hb.size; simp at this; omega))
        | (go_at_call 24; refine (wellTimed_any s c el b r d (by omega) (by omega) _).mono ?_; rintro e w2 ⟨rfl, hb⟩; obtain ⟨hc, hf⟩ := bcell hb; replace hB := hB.trans (hb.mono (by omega)))
        | (go_at_call 25; refine (within_any _ _ _ _).mono ?_; rintro e w1 ⟨rfl, rfl⟩))
      all_goals go_ret
      all_goals exact ⟨rfl, hB⟩
    · have hl2 : inB dn 0 (s.tdiv 2) = false := by simpa [hl1] using hl
      go_enter Try.func8, Try.ntmps8
      go_wp2_with (first
        | (go_at_call 23; refine (setupFault_any s c el b r d _).mono ?_; rintro e w1 ⟨rfl, hb⟩; obtain ⟨hc, hf⟩ := bcell hb; have hB : Below w.heap.size w w1 := ((Below.refl _ _).alloc (Nat.le_refl _) _).trans (hb.mono (by simp)); have hz : w.heap.size < w1.heap.size := (by have := hb.size; simp at this; omega))
        | (go_at_call 24; refine (wellTimed_any s c el b r d (by omega) (by omega) _).mono ?_; rintro e w2 ⟨rfl, hb⟩; obtain ⟨hc, hf⟩ := bcell hb; replace hB := hB.trans (hb.mono (by omega)))
        | (go_at_call 25; refine (within_any _ _ _ _).mono ?_; rintro e w1 ⟨rfl, rfl⟩))
      all_goals go_ret
      all_goals exact ⟨rfl, hB⟩
  obtain ⟨hl1, hl2⟩ := hl
  have hv : winV s c el b r d lg dn = 4 * el * (s + 4) + 4 * (lg + s + 4) + (s + dn) * (r + 4) + 40 := by simp only [winV]; rw [if_pos ⟨h0, ht, hl1, hl2⟩]
  rw [hv]
  have q1 := (inB_iff _ _ _).mp hl1
  have q2 := (inB_iff _ _ _).mp hl2
  have m0 : 0 ≤ (s + dn) * (r + 4) := Int.mul_nonneg (by omega) (by omega)
  have m1 : (s + dn) * (r + 4) ≤ 20 * 2000 := Int.mul_le_mul (by omega) (by omega) (by omega) (by omega)
  have e0 : 0 ≤ 4 * el * (s + 4) := Int.mul_nonneg (by omega) (by omega)
  have e1 : 4 * el * (s + 4) ≤ 4000 * 20 := Int.mul_le_mul (by omega) (by omega) (by omega) (by omega)
  go_enter Try.func8, Try.ntmps8
  go_wp2_with (first
    | (go_at_call 23; refine (setupFault_any s c el b r d _).mono ?_; rintro e w1 ⟨rfl, hb⟩; obtain ⟨hc, hf⟩ := bcell hb; have hB : Below w.heap.size w w1 := ((Below.refl _ _).alloc (Nat.le_refl _) _).trans (hb.mono (by simp)); have hz : w.heap.size < w1.heap.size := (by have := hb.size; simp at this; omega))
    | (go_at_call 24; refine (wellTimed_any s c el b r d (by omega) (by omega) _).mono ?_; rintro e w2 ⟨rfl, hb⟩; obtain ⟨hc, hf⟩ := bcell hb; replace hB := hB.trans (hb.mono (by omega)))
    | (go_at_call 25; refine (within_any _ _ _ _).mono ?_; rintro e w1 ⟨rfl, rfl⟩))
  all_goals go_ret
  all_goals exact ⟨rfl, hB⟩
set_option maxHeartbeats 4000000 in
theorem sWindowBound_any (s c el b r d lg dn : Int) (w : World) :
    Calls Try.prog 6 #[.agg #[.int .i64 s, .int .i64 c, .int .i64 el, .int .i64 b, .int .i64 r, .int .i64 d], .int .i64 lg, .int .i64 dn] w fun e w' =>
      e = .returned (.int .i64 (winV s c el b r d lg dn)) ∧ Below w.heap.size w w' := by
  by_cases h0 : setF s c el b r d = 0
  case neg =>
    have hv : winV s c el b r d lg dn = 0 := by simp [winV, h0]
    rw [hv]
    go_enter Try.func6, Try.ntmps6
    go_wp2_with (first
      | (go_at_call 21; refine (sSetupFault_any s c el b r d _).mono ?_; rintro e w1 ⟨rfl, hb⟩; obtain ⟨hc, hf⟩ := bcell hb; have hB : Below w.heap.size w w1 := ((Below.refl _ _).alloc (Nat.le_refl _) _).trans (hb.mono (by simp))))
    all_goals go_ret
    all_goals exact ⟨rfl, hB⟩
  obtain ⟨hs, he0, he1, hb0, hb1, hr0, hr1⟩ := setF_ok h0
  have hd : 0 ≤ s.tdiv 2 ∧ s.tdiv 2 ≤ 3 := by rcases hs with rfl | rfl | rfl <;> decide
  by_cases ht : timB s el b = true
  case neg =>
    have hv : winV s c el b r d lg dn = 0 := by simp [winV, ht]
    rw [hv]
    have ht2 : el < 8 * s ∨ (8 * s ≤ el ∧ el < 4 * b) := by simp [timB] at ht; omega
    rcases ht2 with ht2 | ht2
    all_goals go_enter Try.func6, Try.ntmps6
    all_goals go_wp2_with (first
      | (go_at_call 21; refine (sSetupFault_any s c el b r d _).mono ?_; rintro e w1 ⟨rfl, hb⟩; obtain ⟨hc, hf⟩ := bcell hb; have hB : Below w.heap.size w w1 := ((Below.refl _ _).alloc (Nat.le_refl _) _).trans (hb.mono (by simp)); have hz : w.heap.size < w1.heap.size := (by have := hb.size; simp at this; omega)))
    all_goals go_ret
    all_goals exact ⟨rfl, hB⟩
  have ht1 : 8 * s ≤ el ∧ 4 * b ≤ el := by simpa [timB] using ht
  by_cases hl : inB lg 0 4096 = true ∧ inB dn 0 (s.tdiv 2) = true
  case neg =>
    have hv : winV s c el b r d lg dn = 0 := by simp only [winV]; rw [if_neg (fun x => hl x.2.2)]
    rw [hv]
    cases hl1 : inB lg 0 4096
    · go_enter Try.func6, Try.ntmps6
      go_wp2_with (first
        | (go_at_call 21; refine (sSetupFault_any s c el b r d _).mono ?_; rintro e w1 ⟨rfl, hb⟩; obtain ⟨hc, hf⟩ := bcell hb; have hB : Below w.heap.size w w1 := ((Below.refl _ _).alloc (Nat.le_refl _) _).trans (hb.mono (by simp)); have hz : w.heap.size < w1.heap.size := (by have := hb.size; simp at this; omega))
        | (go_at_call 22; refine (l1in_any _ _ _ _).mono ?_; rintro e w1 ⟨rfl, rfl⟩))
      all_goals go_ret
      all_goals exact ⟨rfl, hB⟩
    · have hl2 : inB dn 0 (s.tdiv 2) = false := by simpa [hl1] using hl
      go_enter Try.func6, Try.ntmps6
      go_wp2_with (first
        | (go_at_call 21; refine (sSetupFault_any s c el b r d _).mono ?_; rintro e w1 ⟨rfl, hb⟩; obtain ⟨hc, hf⟩ := bcell hb; have hB : Below w.heap.size w w1 := ((Below.refl _ _).alloc (Nat.le_refl _) _).trans (hb.mono (by simp)); have hz : w.heap.size < w1.heap.size := (by have := hb.size; simp at this; omega))
        | (go_at_call 22; refine (l1in_any _ _ _ _).mono ?_; rintro e w1 ⟨rfl, rfl⟩))
      all_goals go_ret
      all_goals exact ⟨rfl, hB⟩
  obtain ⟨hl1, hl2⟩ := hl
  have hv : winV s c el b r d lg dn = 4 * el * (s + 4) + 4 * (lg + s + 4) + (s + dn) * (r + 4) + 40 := by simp only [winV]; rw [if_pos ⟨h0, ht, hl1, hl2⟩]
  rw [hv]
  have q1 := (inB_iff _ _ _).mp hl1
  have q2 := (inB_iff _ _ _).mp hl2
  have m0 : 0 ≤ (s + dn) * (r + 4) := Int.mul_nonneg (by omega) (by omega)
  have m1 : (s + dn) * (r + 4) ≤ 20 * 2000 := Int.mul_le_mul (by omega) (by omega) (by omega) (by omega)
  have e0 : 0 ≤ 4 * el * (s + 4) := Int.mul_nonneg (by omega) (by omega)
  have e1 : 4 * el * (s + 4) ≤ 4000 * 20 := Int.mul_le_mul (by omega) (by omega) (by omega) (by omega)
  go_enter Try.func6, Try.ntmps6
  go_wp2_with (first
    | (go_at_call 21; refine (sSetupFault_any s c el b r d _).mono ?_; rintro e w1 ⟨rfl, hb⟩; obtain ⟨hc, hf⟩ := bcell hb; have hB : Below w.heap.size w w1 := ((Below.refl _ _).alloc (Nat.le_refl _) _).trans (hb.mono (by simp)); have hz : w.heap.size < w1.heap.size := (by have := hb.size; simp at this; omega))
    | (go_at_call 22; refine (l1in_any _ _ _ _).mono ?_; rintro e w1 ⟨rfl, rfl⟩))
  all_goals go_ret
  all_goals exact ⟨rfl, hB⟩
end Go.Proofs.Ytnehhpeddehoiaa
