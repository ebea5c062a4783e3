/-
  DERIVED. GIVEN WITH THE SEED: THE PROGRAM's TIES (one call each: nine closed facts by the kernel) AND EACH ROW's TIE, after the 31st guide's Derived/Test/Toyas{Tie, Card}.lean. No idea stands in it: it is a product of the set-up. Laid BY PROGRAM, IN A SANDBOX (cutbox-door.mjs). By AI agents, Wed Nov 11 2026. No macro, syntax, notation, axiom, sorry.
-/
import Derived.Test.YtafmjckpbcijoaaGreatDoorRows
import Derived.LaidByTextLater
import Derived.SevenTiedAt
import Derived.LaidSub
import Derived.LaidOnce
namespace Go.Proofs.YtafmjckpbcijoaaGreatDoor
open Go
set_option maxRecDepth 100000
theorem seatTie1 : Tryz.prog.laidByTextLater [("errors.errorType", Rows.laid_errors_errorType), ("loop.example/s01586/impl.errSize", Rows.laid_loop_example_s01586_impl_errSize), ("loop.example/s01586/impl.errLength", Rows.laid_loop_example_s01586_impl_errLength), ("loop.example/s01586/impl.errSum", Rows.laid_loop_example_s01586_impl_errSum), ("loop.example/s01586/impl.errKind", Rows.laid_loop_example_s01586_impl_errKind), ("loop.example/s01586/impl.errShape", Rows.laid_loop_example_s01586_impl_errShape), ("loop.example/s01586/impl.errValue", Rows.laid_loop_example_s01586_impl_errValue)] [.handle, .sentinel, .sentinel, .sentinel, .sentinel, .sentinel, .sentinel] true :=
  Program.laidByTextLater_by_one 130 8 2 (by kernel_rfl) (by kernel_rfl) (by kernel_rfl) (by kernel_rfl) (by kernel_rfl) (by kernel_rfl) (fun _ _ => by kernel_rfl)
theorem noOwnUnsafe : Tryz.pinned.checked.prog.headLifts.contains "ownunsafe" = false := by kernel_rfl
theorem tie : Tryz.prog.laidByTextLater [("errors.errorType", Rows.laid_errors_errorType), ("loop.example/s01586/impl.errSize", Rows.laid_loop_example_s01586_impl_errSize), ("loop.example/s01586/impl.errLength", Rows.laid_loop_example_s01586_impl_errLength), ("loop.example/s01586/impl.errSum", Rows.laid_loop_example_s01586_impl_errSum), ("loop.example/s01586/impl.errKind", Rows.laid_loop_example_s01586_impl_errKind), ("loop.example/s01586/impl.errShape", Rows.laid_loop_example_s01586_impl_errShape), ("loop.example/s01586/impl.errValue", Rows.laid_loop_example_s01586_impl_errValue)] [.handle, .sentinel, .sentinel, .sentinel, .sentinel, .sentinel, .sentinel] true :=
  Program.laidByTextLater.sub seatTie1 ["errors.errorType", "loop.example/s01586/impl.errSize", "loop.example/s01586/impl.errLength", "loop.example/s01586/impl.errSum", "loop.example/s01586/impl.errKind", "loop.example/s01586/impl.errShape", "loop.example/s01586/impl.errValue"] (by kernel_rfl) (by kernel_rfl)
theorem fnSpoilt_row_tie : Rows.fnSpoiltRow.laidByTextAt .later Tryz.pinned [.handle, .sentinel, .sentinel, .sentinel, .sentinel, .sentinel, .sentinel] true :=
  OpenClaim.laidByTextAt_later rfl rfl tie noOwnUnsafe
theorem fnFrames_row_tie : Rows.fnFramesRow.laidByTextAt .later Tryz.pinned [.handle, .sentinel, .sentinel, .sentinel, .sentinel, .sentinel, .sentinel] true :=
  OpenClaim.laidByTextAt_later rfl rfl tie noOwnUnsafe
theorem fnSpoiltUpto_row_tie : Rows.fnSpoiltUptoRow.laidByTextAt .later Tryz.pinned [.handle, .sentinel, .sentinel, .sentinel, .sentinel, .sentinel, .sentinel] true :=
  OpenClaim.laidByTextAt_later rfl rfl tie noOwnUnsafe
theorem fnFramesUpto_row_tie : Rows.fnFramesUptoRow.laidByTextAt .later Tryz.pinned [.handle, .sentinel, .sentinel, .sentinel, .sentinel, .sentinel, .sentinel] true :=
  OpenClaim.laidByTextAt_later rfl rfl tie noOwnUnsafe
end Go.Proofs.YtafmjckpbcijoaaGreatDoor
