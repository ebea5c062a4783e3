/-
  The changes of impl: fits.
-/
import Derived.Test.YtlfnlhbkagjheaaDoorHardFits
import Derived.Test.YtlfnlhbkagjheaaDoorEntFit
import Derived.Test.YtlfnlhbkagjheaaDoorGround
namespace Go.Proofs.YtlfnlhbkagjheaaDoor
open Go.RowKit
set_option linter.unusedVariables false
set_option linter.unusedSimpArgs false

set_option maxHeartbeats 2000000 in
set_option maxRecDepth 100000 in
theorem addFits_any (ix : Int) (e : Ent) (hf : e.fits) (w : World) :
    Calls Tryd.prog 95 #[.agg #[.int .i64 ix, .int .i64 e.t, .int .i64 e.cl, .int .i64 e.sq, .int .i64 e.op, .string e.k, .string e.v, .string e.o]] w fun x w' => x = .returned (.bool (inB ix 1 4096 && entB e)) ∧ Below w.heap.size w w' := by
  have hb0 := (Below.refl w.heap.size w).alloc (Nat.le_refl _) (.cells #[.int .i64 ix, .int .i64 e.t, .int .i64 e.cl, .int .i64 e.sq, .int .i64 e.op, .string e.k, .string e.v, .string e.o] 104)
  cases ha : inB ix 1 4096
  · go_enter Tryd.func95, Tryd.ntmps95
    go_wp2_with (go_at_call 49; refine (within_any _ _ _ _).mono ?_; rintro r w1 ⟨rfl, hw⟩; obtain rfl := hw.symm)
    go_ret
    exact ⟨ret_bool (by simp [ha]), hb0⟩
  · go_enter Tryd.func95, Tryd.ntmps95
    go_wp2_with (first
      | (go_at_call 49; refine (within_any _ _ _ _).mono ?_; rintro r w1 ⟨rfl, hw⟩; obtain rfl := hw.symm)
      | (go_at_call 98; refine (entryFits_any e hf _).mono ?_; rintro r w1 ⟨rfl, hb⟩))
    go_ret
    exact ⟨ret_bool (by simp [ha]), hb0.trans (hb.mono (by simp))⟩

theorem cutFits_any (ix : Int) (w : World) :
    Calls Tryd.prog 104 #[.agg #[.int .i64 ix]] w fun e w' => e = .returned (.bool (inB ix 0 4096)) ∧ Below w.heap.size w w' := by
  have hb0 := (Below.refl w.heap.size w).alloc (Nat.le_refl _) (.cells #[.int .i64 ix] 106)
  go_enter Tryd.func104, Tryd.ntmps104
  go_wp2_with (go_at_call 49; refine (within_any _ _ _ _).mono ?_; rintro r w1 ⟨rfl, hw⟩; obtain rfl := hw.symm)
  go_ret
  exact ⟨rfl, hb0⟩
end Go.Proofs.YtlfnlhbkagjheaaDoor
