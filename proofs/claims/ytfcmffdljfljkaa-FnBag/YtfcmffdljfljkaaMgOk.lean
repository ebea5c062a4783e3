/-
  Bounds on a drawn message (pure).
-/
import Derived.Test.YtfcmffdljfljkaaDrMg
namespace Go.Proofs.Ytfcmffdljfljkaa
open Go.RowKit
set_option linter.unusedVariables false
set_option linter.unusedSimpArgs false

theorem mgT_ok (l : List Int) (k : Nat) : 1 ≤ (mgT l k).1 ∧ (mgT l k).1 ≤ 1073741824 ∧ (mgT l k).2 ≤ k + 7 := by
  have h1 := pickV_lt l (k + 1 + 1 + 1 + 1 + 1 + 1) 2 (by decide)
  have h2 := pickV_lt l (k + 1 + 1) 9 (by decide)
  unfold mgT
  split <;> (dsimp only; omega)
theorem mgB_len (l : List Int) (k : Nat) (ki tm li lt : Int) : (mgB l k ki tm li lt).2.1.length ≤ 32 := by
  unfold mgB
  split
  · dsimp only
    rw [List.length_map, entsD_len]
    have := (mgN0_ok l (k + 1)).1
    unfold mgN
    omega
  · simp
theorem mgC_k (l : List Int) (k : Nat) (ki : Int) : (mgC l k ki).2 ≤ k + 1 := by
  unfold mgC
  split <;> (dsimp only; omega)
theorem mgD_k (l : List Int) (k : Nat) (ki ok li : Int) : (mgD l k ki ok li).2.2 ≤ k + 2 := by
  unfold mgD
  split
  · dsimp only
    split <;> omega
  · dsimp only; omega
theorem msgD_ok (l : List Int) (k : Nat) : 1 ≤ (msgD l k).tm ∧ (msgD l k).tm ≤ 1073741824 ∧ 0 ≤ (msgD l k).lt ∧ (msgD l k).lt ≤ 1073741824 ∧ (msgD l k).es.length ≤ 32 ∧ (msgD l k).k ≤ k + 700 := by
  have hT := mgT_ok l k
  have hA := mgA_ok l (mgT l k).2 (mgK l k) (mgT l k).1 hT.1 hT.2.1
  unfold msgD
  dsimp only
  refine ⟨hT.1, hT.2.1, hA.2.2.1, hA.2.2.2.1, mgB_len _ _ _ _ _ _, ?_⟩
  refine Nat.le_trans (mgD_k _ _ _ _ _) ?_
  have h1 := mgC_k l (mgB l (mgA l (mgT l k).2 (mgK l k) (mgT l k).1).2.2 (mgK l k) (mgT l k).1 (mgA l (mgT l k).2 (mgK l k) (mgT l k).1).1 (mgA l (mgT l k).2 (mgK l k) (mgT l k).1).2.1).2.2 (mgK l k)
  have h2 := mgB_k l (mgA l (mgT l k).2 (mgK l k) (mgT l k).1).2.2 (mgK l k) (mgT l k).1 (mgA l (mgT l k).2 (mgK l k) (mgT l k).1).1 (mgA l (mgT l k).2 (mgK l k) (mgT l k).1).2.1
  omega
end Go.Proofs.Ytfcmffdljfljkaa
