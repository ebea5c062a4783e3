/-
  FnDisk, plain.
-/
import Derived.Test.YtjoflnnomebkpaaDoorDwDo
import Derived.Test.YtjoflnnomebkpaaDoorCrashI
import Derived.Test.YtjoflnnomebkpaaDoorSyncI
import Derived.Test.YtjoflnnomebkpaaDoorDrDw
import Derived.Test.YtjoflnnomebkpaaDoorFrames
namespace Go.Proofs.YtjoflnnomebkpaaDoor
open Go.RowKit
set_option linter.unusedVariables false
set_option linter.unusedSimpArgs false

theorem diskB_rng {c y : Int} {n : Nat} (h : diskB c y n = true) : 0 ≤ c ∧ c ≤ 1048576 ∧ (n : Int) ≤ c ∧ 0 ≤ y ∧ y ≤ n := by
  simp only [diskB, Bool.and_eq_true, inB_iff, decide_eq_true_eq] at h
  omega
theorem diskB_mk {c y : Int} {n : Nat} (h : 0 ≤ c ∧ c ≤ 1048576 ∧ (n : Int) ≤ c ∧ 0 ≤ y ∧ y ≤ n) : diskB c y n = true := by
  simp only [diskB, Bool.and_eq_true, inB_iff, decide_eq_true_eq]
  omega
/-- is a write taken -/
def takeB (c : Int) (l : List Int) (rs : List Rec) : Bool := recsB rs && decide (((l.length + (encRecs rs).length : Nat) : Int) ≤ c)
theorem enc_true {rs : List Rec} (h : recsB rs = true) : encRecs rs = framesL rs := by unfold encRecs; rw [if_pos h]
theorem enc_false {rs : List Rec} (h : recsB rs = false) : encRecs rs = [] := by unfold encRecs; rw [if_neg (by rw [h]; simp)]
theorem dw_true {c y : Int} {l : List Int} {rs : List Rec} (hd : diskB c y l.length = true) (ht : takeB c l rs = true) : dwCode c y l rs = 0 ∧ dwL c y l rs = l ++ encRecs rs := by
  simp only [takeB, Bool.and_eq_true, decide_eq_true_eq] at ht
  obtain ⟨h1, h2⟩ := ht
  rw [enc_true h1] at h2 ⊢
  have h3 : ¬ c < ((l.length + (framesL rs).length : Nat) : Int) := by omega
  unfold dwCode dwL
  simp only [hd, h1, h3, Bool.true_eq_false, if_false]
  exact ⟨trivial, trivial⟩
theorem dw_false {c y : Int} {l : List Int} {rs : List Rec} (hd : diskB c y l.length = true) (ht : takeB c l rs = false) : (dwCode c y l rs = 2 ∨ dwCode c y l rs = 3) ∧ dwL c y l rs = l := by
  unfold dwCode dwL
  cases h1 : recsB rs
  · simp only [hd, Bool.true_eq_false, if_false, if_true]
    exact ⟨.inl trivial, trivial⟩
  · have h2 : c < ((l.length + (framesL rs).length : Nat) : Int) := by
      simp only [takeB, h1, Bool.true_and, decide_eq_false_iff_not, enc_true h1] at ht
      omega
    simp only [hd, h2, Bool.true_eq_false, if_false, if_true]
    exact ⟨.inr trivial, trivial⟩
theorem dwL_disk {c y : Int} {l : List Int} {rs : List Rec} (hd : diskB c y l.length = true) : dwC c y l = c ∧ dwY c y l = y ∧ diskB c y (dwL c y l rs).length = true := by
  have hr := diskB_rng hd
  refine ⟨by unfold dwC; rw [if_neg (by rw [hd]; simp)], by unfold dwY; rw [if_neg (by rw [hd]; simp)], ?_⟩
  cases ht : takeB c l rs
  · rw [(dw_false hd ht).2]; exact hd
  · rw [(dw_true hd ht).2]
    simp only [takeB, Bool.and_eq_true, decide_eq_true_eq] at ht
    refine diskB_mk ?_
    rw [List.length_append]
    omega
theorem crash_ok {c y : Int} {l : List Int} (keep : Int) (hd : diskB c y l.length = true) : crashC c y l keep = c ∧ crashY c y l keep = y ∧ crashL c y l keep = l.take (crashN y l.length keep) ∧ crashN y l.length keep ≤ l.length ∧ y ≤ crashN y l.length keep ∧ diskB c y (l.take (crashN y l.length keep)).length = true := by
  have hr := diskB_rng hd
  have hn := crashN_le keep hd
  refine ⟨by unfold crashC; rw [if_pos hd], by unfold crashY; rw [if_pos hd], by unfold crashL; rw [if_pos hd], hn.1, by omega, diskB_mk ?_⟩
  rw [List.length_take]
  omega
theorem sync_ok {c y : Int} {l : List Int} (hd : diskB c y l.length = true) : syncC c y l = c ∧ syncY c y l = l.length ∧ syncL c y l = l ∧ diskB c l.length l.length = true := by
  have hr := diskB_rng hd
  exact ⟨by unfold syncC; rw [if_pos hd], by unfold syncY; rw [if_pos hd], by unfold syncL; rw [if_pos hd], diskB_mk (by omega)⟩
/-- what FnDisk calls fine -/
theorem fine_eq (rs : List Rec) (h : rs.length ≤ 720) : (dwCode 1048576 0 [] rs == 0) = recsB rs := by
  have hd : diskB 1048576 0 ([] : List Int).length = true := by decide
  cases h1 : recsB rs
  · have := (dw_false (rs := rs) hd (by simp [takeB, h1])).1
    rcases this with e | e <;> rw [e] <;> rfl
  · have h2 := encRecs_len7 rs h
    have := (dw_true (rs := rs) hd (by simp [takeB, h1]; omega)).1
    rw [this]; rfl
end Go.Proofs.YtjoflnnomebkpaaDoor
