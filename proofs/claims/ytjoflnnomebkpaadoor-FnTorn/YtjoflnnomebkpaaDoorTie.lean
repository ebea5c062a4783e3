/-
  DERIVED. GIVEN WITH THE SEED: THE PROGRAM's TIES (one call each: nine closed facts by the kernel) AND EACH ROW's TIE, after the 31st guide's Derived/Test/Toyas{Tie, Card}.lean. No idea stands in it: it is a product of the set-up. Laid BY PROGRAM, IN A SANDBOX (cutbox-door.mjs). By AI agents, Wed Nov 11 2026. No macro, syntax, notation, axiom, sorry.
-/
import Derived.Test.YtjoflnnomebkpaaDoorRows
import Derived.LaidByTextLater
import Derived.SevenTiedAt
import Derived.LaidSub
import Derived.LaidOnce
namespace Go.Proofs.YtjoflnnomebkpaaDoor
open Go
set_option maxRecDepth 100000
theorem seatTie1 : Tryd.prog.laidByTextLater [("loop.example/s01586/impl.errSize", Rows.laid_loop_example_s01586_impl_errSize), ("loop.example/s01586/impl.errLength", Rows.laid_loop_example_s01586_impl_errLength), ("loop.example/s01586/impl.errSum", Rows.laid_loop_example_s01586_impl_errSum), ("loop.example/s01586/impl.errKind", Rows.laid_loop_example_s01586_impl_errKind), ("loop.example/s01586/impl.errShape", Rows.laid_loop_example_s01586_impl_errShape), ("loop.example/s01586/impl.errValue", Rows.laid_loop_example_s01586_impl_errValue), ("loop.example/s01586/impl.errTorn", Rows.laid_loop_example_s01586_impl_errTorn), ("loop.example/s01586/impl.errBounds", Rows.laid_loop_example_s01586_impl_errBounds), ("loop.example/s01586/impl.errPlace", Rows.laid_loop_example_s01586_impl_errPlace), ("loop.example/s01586/impl.errRecords", Rows.laid_loop_example_s01586_impl_errRecords), ("loop.example/s01586/impl.errFull", Rows.laid_loop_example_s01586_impl_errFull)] [.sentinel, .sentinel, .sentinel, .sentinel, .sentinel, .sentinel, .sentinel, .sentinel, .sentinel, .sentinel, .sentinel] true :=
  Program.laidByTextLater_by_one 218 8 2 (by kernel_rfl) (by kernel_rfl) (by kernel_rfl) (by kernel_rfl) (by kernel_rfl) (by kernel_rfl) (fun _ _ => by kernel_rfl)
theorem noOwnUnsafe : Tryd.pinned.checked.prog.headLifts.contains "ownunsafe" = false := by kernel_rfl
theorem tie : Tryd.prog.laidByTextLater [("loop.example/s01586/impl.errRecords", Rows.laid_loop_example_s01586_impl_errRecords), ("loop.example/s01586/impl.errFull", Rows.laid_loop_example_s01586_impl_errFull)] [.sentinel, .sentinel] true :=
  Program.laidByTextLater.sub seatTie1 ["loop.example/s01586/impl.errRecords", "loop.example/s01586/impl.errFull"] (by kernel_rfl) (by kernel_rfl)
theorem fnDisk_row_tie : Rows.fnDiskRow.laidByTextAt .later Tryd.pinned [.sentinel, .sentinel] true :=
  OpenClaim.laidByTextAt_later rfl rfl tie noOwnUnsafe
theorem fnExactDiskWrite_row_tie : Rows.fnExactDiskWriteRow.laidByTextAt .later Tryd.pinned [.sentinel, .sentinel] true :=
  OpenClaim.laidByTextAt_later rfl rfl tie noOwnUnsafe
theorem tie2 : Tryd.prog.laidByTextLater [("loop.example/s01586/impl.errSize", Rows.laid_loop_example_s01586_impl_errSize), ("loop.example/s01586/impl.errLength", Rows.laid_loop_example_s01586_impl_errLength), ("loop.example/s01586/impl.errSum", Rows.laid_loop_example_s01586_impl_errSum), ("loop.example/s01586/impl.errKind", Rows.laid_loop_example_s01586_impl_errKind), ("loop.example/s01586/impl.errShape", Rows.laid_loop_example_s01586_impl_errShape), ("loop.example/s01586/impl.errValue", Rows.laid_loop_example_s01586_impl_errValue), ("loop.example/s01586/impl.errTorn", Rows.laid_loop_example_s01586_impl_errTorn), ("loop.example/s01586/impl.errBounds", Rows.laid_loop_example_s01586_impl_errBounds), ("loop.example/s01586/impl.errPlace", Rows.laid_loop_example_s01586_impl_errPlace), ("loop.example/s01586/impl.errRecords", Rows.laid_loop_example_s01586_impl_errRecords), ("loop.example/s01586/impl.errFull", Rows.laid_loop_example_s01586_impl_errFull)] [.sentinel, .sentinel, .sentinel, .sentinel, .sentinel, .sentinel, .sentinel, .sentinel, .sentinel, .sentinel, .sentinel] true :=
  Program.laidByTextLater.sub seatTie1 ["loop.example/s01586/impl.errSize", "loop.example/s01586/impl.errLength", "loop.example/s01586/impl.errSum", "loop.example/s01586/impl.errKind", "loop.example/s01586/impl.errShape", "loop.example/s01586/impl.errValue", "loop.example/s01586/impl.errTorn", "loop.example/s01586/impl.errBounds", "loop.example/s01586/impl.errPlace", "loop.example/s01586/impl.errRecords", "loop.example/s01586/impl.errFull"] (by kernel_rfl) (by kernel_rfl)
theorem fnTorn_row_tie : Rows.fnTornRow.laidByTextAt .later Tryd.pinned [.sentinel, .sentinel, .sentinel, .sentinel, .sentinel, .sentinel, .sentinel, .sentinel, .sentinel, .sentinel, .sentinel] true :=
  OpenClaim.laidByTextAt_later rfl rfl tie2 noOwnUnsafe
theorem tie3 : Tryd.prog.laidByTextLater [("loop.example/s01586/impl.errRecords", Rows.laid_loop_example_s01586_impl_errRecords)] [.sentinel] true :=
  Program.laidByTextLater.sub seatTie1 ["loop.example/s01586/impl.errRecords"] (by kernel_rfl) (by kernel_rfl)
theorem fnExactEncodeRecords_row_tie : Rows.fnExactEncodeRecordsRow.laidByTextAt .later Tryd.pinned [.sentinel] true :=
  OpenClaim.laidByTextAt_later rfl rfl tie3 noOwnUnsafe
theorem tie4 : Tryd.prog.laidByTextLater [("loop.example/s01586/impl.errSize", Rows.laid_loop_example_s01586_impl_errSize), ("loop.example/s01586/impl.errLength", Rows.laid_loop_example_s01586_impl_errLength), ("loop.example/s01586/impl.errSum", Rows.laid_loop_example_s01586_impl_errSum), ("loop.example/s01586/impl.errKind", Rows.laid_loop_example_s01586_impl_errKind), ("loop.example/s01586/impl.errShape", Rows.laid_loop_example_s01586_impl_errShape), ("loop.example/s01586/impl.errValue", Rows.laid_loop_example_s01586_impl_errValue), ("loop.example/s01586/impl.errTorn", Rows.laid_loop_example_s01586_impl_errTorn), ("loop.example/s01586/impl.errBounds", Rows.laid_loop_example_s01586_impl_errBounds), ("loop.example/s01586/impl.errPlace", Rows.laid_loop_example_s01586_impl_errPlace)] [.sentinel, .sentinel, .sentinel, .sentinel, .sentinel, .sentinel, .sentinel, .sentinel, .sentinel] true :=
  Program.laidByTextLater.sub seatTie1 ["loop.example/s01586/impl.errSize", "loop.example/s01586/impl.errLength", "loop.example/s01586/impl.errSum", "loop.example/s01586/impl.errKind", "loop.example/s01586/impl.errShape", "loop.example/s01586/impl.errValue", "loop.example/s01586/impl.errTorn", "loop.example/s01586/impl.errBounds", "loop.example/s01586/impl.errPlace"] (by kernel_rfl) (by kernel_rfl)
theorem fnExactRestart_row_tie : Rows.fnExactRestartRow.laidByTextAt .later Tryd.pinned [.sentinel, .sentinel, .sentinel, .sentinel, .sentinel, .sentinel, .sentinel, .sentinel, .sentinel] true :=
  OpenClaim.laidByTextAt_later rfl rfl tie4 noOwnUnsafe
theorem fnDiskUpto_row_tie : Rows.fnDiskUptoRow.laidByTextAt .later Tryd.pinned [.sentinel, .sentinel] true :=
  OpenClaim.laidByTextAt_later rfl rfl tie noOwnUnsafe
theorem fnTornUpto_row_tie : Rows.fnTornUptoRow.laidByTextAt .later Tryd.pinned [.sentinel, .sentinel, .sentinel, .sentinel, .sentinel, .sentinel, .sentinel, .sentinel, .sentinel, .sentinel, .sentinel] true :=
  OpenClaim.laidByTextAt_later rfl rfl tie2 noOwnUnsafe
theorem fnExactEncodeRecordsUpto_row_tie : Rows.fnExactEncodeRecordsUptoRow.laidByTextAt .later Tryd.pinned [.sentinel] true :=
  OpenClaim.laidByTextAt_later rfl rfl tie3 noOwnUnsafe
theorem fnExactDiskWriteUpto_row_tie : Rows.fnExactDiskWriteUptoRow.laidByTextAt .later Tryd.pinned [.sentinel, .sentinel] true :=
  OpenClaim.laidByTextAt_later rfl rfl tie noOwnUnsafe
theorem fnExactRestartUpto_row_tie : Rows.fnExactRestartUptoRow.laidByTextAt .later Tryd.pinned [.sentinel, .sentinel, .sentinel, .sentinel, .sentinel, .sentinel, .sentinel, .sentinel, .sentinel] true :=
  OpenClaim.laidByTextAt_later rfl rfl tie4 noOwnUnsafe
end Go.Proofs.YtjoflnnomebkpaaDoor
