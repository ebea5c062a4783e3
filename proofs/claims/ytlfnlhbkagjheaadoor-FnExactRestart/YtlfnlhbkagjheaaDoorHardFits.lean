/-
  hardChange.fits.
-/
import Derived.Test.YtlfnlhbkagjheaaDoorGround
import Derived.Test.YtlfnlhbkagjheaaDoorEntFit
namespace Go.Proofs.YtlfnlhbkagjheaaDoor
open Go.RowKit
set_option linter.unusedVariables false
set_option linter.unusedSimpArgs false

set_option maxHeartbeats 2000000 in
set_option maxRecDepth 100000 in
theorem hardFits_any (tm vo : Int) (w : World) :
    Calls Tryd.prog 90 #[.agg #[.int .i64 tm, .int .i64 vo]] w fun e w' => e = .returned (.bool (inB tm 0 1073741824 && (inB vo 0 7 && (decide (0 < tm) || vo == 0)))) ∧ Below w.heap.size w w' := by
  have hb := (Below.refl w.heap.size w).alloc (Nat.le_refl _) (.cells #[.int .i64 tm, .int .i64 vo] 101)
  cases ha : inB tm 0 1073741824
  · go_enter Tryd.func90, Tryd.ntmps90
    go_wp2_with (go_at_call 49; refine (within_any _ _ _ _).mono ?_; rintro r w1 ⟨rfl, hw⟩; obtain rfl := hw.symm)
    go_ret
    exact ⟨ret_bool (by simp [ha]), hb⟩
  · cases hc : inB vo 0 7
    · go_enter Tryd.func90, Tryd.ntmps90
      go_wp2_with (go_at_call 49; refine (within_any _ _ _ _).mono ?_; rintro r w1 ⟨rfl, hw⟩; obtain rfl := hw.symm)
      go_ret
      exact ⟨ret_bool (by simp [ha, hc]), hb⟩
    · cases hv : (vo == 0)
      · go_enter Tryd.func90, Tryd.ntmps90
        go_wp2_with (go_at_call 49; refine (within_any _ _ _ _).mono ?_; rintro r w1 ⟨rfl, hw⟩; obtain rfl := hw.symm)
        go_ret
        exact ⟨ret_bool (by simp [ha, hc, hv]), hb⟩
      · go_enter Tryd.func90, Tryd.ntmps90
        go_wp2_with (go_at_call 49; refine (within_any _ _ _ _).mono ?_; rintro r w1 ⟨rfl, hw⟩; obtain rfl := hw.symm)
        go_ret
        exact ⟨ret_bool (by simp [ha, hc, hv]), hb⟩
end Go.Proofs.YtlfnlhbkagjheaaDoor
