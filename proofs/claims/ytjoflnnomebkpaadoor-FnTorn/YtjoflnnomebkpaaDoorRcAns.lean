/-
  What both Recovers rest on.
-/
import Derived.Test.YtjoflnnomebkpaaDoorRcApply
namespace Go.Proofs.YtjoflnnomebkpaaDoor
open Go.RowKit
set_option linter.unusedVariables false
set_option linter.unusedSimpArgs false

theorem infoRcv : (Tryd.prog.info? 100).map (·.size) = some 6 := by kernel_rfl
theorem thenS_len (s : Stt) (r : Rec) : (thenS s r).log.length ≤ s.log.length + 1 := by
  unfold thenS
  split
  · exact Nat.le_succ _
  split
  · simp
  · rw [List.length_take]; omega
theorem oneE_in {r : List Int} {s : Stt} (h : oneE r s ≠ 0) : oneE r s = 3 ∨ oneE r s = 4 ∨ oneE r s = 5 ∨ oneE r s = 6 ∨ oneE r s = 7 ∨ oneE r s = 8 ∨ oneE r s = 9 := by
  by_cases h1 : cutC r = 0
  · have hS := sumC_cut h1
    unfold oneE at h ⊢
    rw [if_neg (fun x => x h1)] at h ⊢
    by_cases h2 : readE (r.take (cutN r)) = 0
    · rw [if_neg (fun x => x h2)] at h ⊢
      split at h
      · next h3 => simp [h3]
      · exact absurd rfl h
    · rw [if_pos h2]
      have h2' := h2
      unfold readE at h2' ⊢
      rw [hS] at h2' ⊢
      repeat' split
      all_goals simp_all
  · unfold oneE at h ⊢
    rw [if_pos h1]
    unfold cutC at h1 ⊢
    repeat' split
    all_goals simp_all
/-- the answer of a Recover -/
def rcvV (R : Nat × Nat × Nat × Stt) (lg : Value) : Value := .agg #[.int .i64 (stopC R.1), .int .i64 (R.2.1 : Nat), .int .i64 (R.2.2.1 : Nat), .int .i64 R.2.2.2.t, .int .i64 R.2.2.2.v, lg]
end Go.Proofs.YtjoflnnomebkpaaDoor
