/-
  NARROWER THAN 'FOR EVERY INPUT', by the rows' own cells (each row's printed sentence says how): FnDisk: ifaces, laid · FnTorn: ifaces, laid · FnExactEncodeRecords: ifaces, laid · FnExactDiskWrite: ifaces, laid · FnExactRestart: ifaces, laid.
  DERIVED. THE GIVEN ROWS OF THIS SEAT. 5 by the template 'for every input the law returns true; each argument reads behind the call as it read before'; 0 by the template 'total and deterministic' (their statements: YtjoflnnomebkpaaDoorTotals.lean).
  GIVEN WITH THE SEED: the statements are not yours to turn. If you find one false, say at which input.
  Laid BY PROGRAM, IN A SANDBOX (cutbox-rows.mjs): the forced cells as the released guide's own fill.sh prints them over the translation 8d3f5bf2035ec6cb… (all of the seat's roots in one cut). By AI agents, Wed Nov 11 2026. No macro, syntax, notation, axiom, sorry.
-/
import Derived.Test.YtjoflnnomebkpaaDoorChecked
import GoSem.Claim
import GoSem.ClaimJoined
import GoSem.ClaimMapViews
import Derived.JoinedTies
import Derived.KernelRfl
namespace Go.Proofs.YtjoflnnomebkpaaDoor
/- THE CELL 'sum', in the pinned program and in every row, IS THE sha256 OF THE DUMP (.gsa) THAT YtjoflnnomebkpaaDoorProg.lean LOADS. Nothing in Lean hashes anything: it is a label: what it is worth is what the hold of that sum in a sandbox is worth. -/
noncomputable def Tryd.pinned : Pinned := { name := "ytjoflnnomebkpaadoor", sum := "8d3f5bf2035ec6cbd8461fbf6433e5376982d9e1d6c86b28351b8043611f87b6", checked := Tryd.checked }
namespace Rows
def none {H : Type} : Left H := { results := [], args := [] }

/- WHAT THE LISTED PACKAGE-LEVEL VARIABLES READ AS WHEN THE CALL BEGINS. Each datum BY PROGRAM (the guide's laid-datum.mjs) off the statement by which the dump's own 'gosem.cut.vars' lays the variable. In a bare row this is a premise. The card (YtjoflnnomebkpaaDoorCards.lean) ties it to the program's text. -/
def laid_loop_example_s01586_impl_errRecords {H : Type} : DataW H := .iface "*errors.errorString" (.ptr (.agg [.lit (.string [97, 32, 114, 101, 99, 111, 114, 100, 32, 105, 115, 32, 105, 108, 108, 45, 102, 111, 114, 109, 101, 100, 44, 32, 111, 114, 32, 116, 104, 101, 114, 101, 32, 97, 114, 101, 32, 116, 111, 111, 32, 109, 97, 110, 121])]))
def laid_loop_example_s01586_impl_errFull {H : Type} : DataW H := .iface "*errors.errorString" (.ptr (.agg [.lit (.string [116, 104, 101, 32, 100, 105, 115, 107, 32, 105, 115, 32, 102, 117, 108, 108])]))
def laid_loop_example_s01586_impl_errSize {H : Type} : DataW H := .iface "*errors.errorString" (.ptr (.agg [.lit (.string [97, 32, 102, 114, 97, 109, 101, 32, 104, 97, 115, 32, 57, 32, 116, 111, 32, 49, 54, 51, 56, 52, 32, 98, 121, 116, 101, 115])]))
def laid_loop_example_s01586_impl_errLength {H : Type} : DataW H := .iface "*errors.errorString" (.ptr (.agg [.lit (.string [116, 104, 101, 32, 108, 101, 110, 103, 116, 104, 32, 116, 111, 108, 100, 32, 105, 115, 32, 110, 111, 116, 32, 116, 104, 97, 116, 32, 111, 102, 32, 116, 104, 101, 32, 98, 111, 100, 121])]))
def laid_loop_example_s01586_impl_errSum {H : Type} : DataW H := .iface "*errors.errorString" (.ptr (.agg [.lit (.string [116, 104, 101, 32, 99, 104, 101, 99, 107, 32, 115, 117, 109, 32, 116, 111, 108, 100, 32, 105, 115, 32, 110, 111, 116, 32, 116, 104, 97, 116, 32, 111, 102, 32, 116, 104, 101, 32, 98, 111, 100, 121])]))
def laid_loop_example_s01586_impl_errKind {H : Type} : DataW H := .iface "*errors.errorString" (.ptr (.agg [.lit (.string [116, 104, 101, 32, 107, 105, 110, 100, 32, 105, 115, 32, 110, 111, 116, 32, 111, 110, 101, 32, 111, 102, 32, 116, 104, 105, 115, 32, 100, 101, 99, 111, 100, 101, 114])]))
def laid_loop_example_s01586_impl_errShape {H : Type} : DataW H := .iface "*errors.errorString" (.ptr (.agg [.lit (.string [116, 104, 101, 32, 98, 111, 100, 121, 32, 100, 111, 101, 115, 32, 110, 111, 116, 32, 114, 101, 97, 100])]))
def laid_loop_example_s01586_impl_errValue {H : Type} : DataW H := .iface "*errors.errorString" (.ptr (.agg [.lit (.string [116, 104, 101, 32, 118, 97, 108, 117, 101, 32, 105, 115, 32, 105, 108, 108, 45, 102, 111, 114, 109, 101, 100])]))
def laid_loop_example_s01586_impl_errTorn {H : Type} : DataW H := .iface "*errors.errorString" (.ptr (.agg [.lit (.string [116, 104, 101, 32, 114, 101, 99, 111, 114, 100, 32, 101, 110, 100, 115, 32, 98, 101, 104, 105, 110, 100, 32, 116, 104, 101, 32, 108, 97, 115, 116, 32, 98, 121, 116, 101])]))
def laid_loop_example_s01586_impl_errBounds {H : Type} : DataW H := .iface "*errors.errorString" (.ptr (.agg [.lit (.string [110, 111, 32, 114, 101, 99, 111, 114, 100, 32, 104, 97, 115, 32, 116, 104, 101, 32, 108, 101, 110, 103, 116, 104, 32, 116, 111, 108, 100])]))
def laid_loop_example_s01586_impl_errPlace {H : Type} : DataW H := .iface "*errors.errorString" (.ptr (.agg [.lit (.string [116, 104, 101, 32, 114, 101, 99, 111, 114, 100, 32, 105, 115, 32, 111, 117, 116, 32, 111, 102, 32, 112, 108, 97, 99, 101])]))

/-- 'laws.FnDisk': WHATEVER THE INPUT: true; the input reads as it did. -/
def fnDiskSpec : ChangeSpec := { name := "fnDisk", vars := ["loop.example/s01586/impl.errRecords", "loop.example/s01586/impl.errFull"], fn := fun _ => fun
  | [d1, d2, g1, g2] => { results := [.lit (.bool true)], args := [d1, d2], vars := [g1, g2] }
  | _ => none }
def fnDiskRow : OpenClaim := { program := "ytjoflnnomebkpaadoor", sum := "8d3f5bf2035ec6cbd8461fbf6433e5376982d9e1d6c86b28351b8043611f87b6", func := "loop.example/s01586/laws.FnDisk", spec := "fnDisk", inPlace := ["internal/reflectlite.TypeOf"], unfollowed := true, recurses := true, named := ["loop.example/s01586/impl.errRecords", "loop.example/s01586/impl.errFull"], ifaces := true, apart := false, laid := [("loop.example/s01586/impl.errRecords", laid_loop_example_s01586_impl_errRecords), ("loop.example/s01586/impl.errFull", laid_loop_example_s01586_impl_errFull)] }
def FnDiskSaid : Prop := fnDiskRow.holds Tryd.pinned (OpenSpec.ofChange fnDiskSpec)

/-- ITS FALSE NEIGHBOUR: 'it returns false'. Refute it at one input. -/
def fnDiskWrong : ChangeSpec := { name := "fnDisk", vars := ["loop.example/s01586/impl.errRecords", "loop.example/s01586/impl.errFull"], fn := fun _ => fun
  | [d1, d2, g1, g2] => { results := [.lit (.bool false)], args := [d1, d2], vars := [g1, g2] }
  | _ => none }
def FnDiskWrongFalsely : Prop := fnDiskRow.holds Tryd.pinned (OpenSpec.ofChange fnDiskWrong)

/-- 'laws.FnTorn': WHATEVER THE INPUT: true; the input reads as it did. -/
def fnTornSpec : ChangeSpec := { name := "fnTorn", vars := ["loop.example/s01586/impl.errFull", "loop.example/s01586/impl.errRecords", "loop.example/s01586/impl.errTorn", "loop.example/s01586/impl.errBounds", "loop.example/s01586/impl.errSize", "loop.example/s01586/impl.errLength", "loop.example/s01586/impl.errSum", "loop.example/s01586/impl.errKind", "loop.example/s01586/impl.errValue", "loop.example/s01586/impl.errShape", "loop.example/s01586/impl.errPlace"], fn := fun _ => fun
  | [d, g1, g2, g3, g4, g5, g6, g7, g8, g9, g10, g11] => { results := [.lit (.bool true)], args := [d], vars := [g1, g2, g3, g4, g5, g6, g7, g8, g9, g10, g11] }
  | _ => none }
def fnTornRow : OpenClaim := { program := "ytjoflnnomebkpaadoor", sum := "8d3f5bf2035ec6cbd8461fbf6433e5376982d9e1d6c86b28351b8043611f87b6", func := "loop.example/s01586/laws.FnTorn", spec := "fnTorn", inPlace := ["internal/reflectlite.TypeOf"], unfollowed := true, recurses := true, named := ["loop.example/s01586/impl.errFull", "loop.example/s01586/impl.errRecords", "loop.example/s01586/impl.errTorn", "loop.example/s01586/impl.errBounds", "loop.example/s01586/impl.errSize", "loop.example/s01586/impl.errLength", "loop.example/s01586/impl.errSum", "loop.example/s01586/impl.errKind", "loop.example/s01586/impl.errValue", "loop.example/s01586/impl.errShape", "loop.example/s01586/impl.errPlace"], ifaces := true, apart := false, laid := [("loop.example/s01586/impl.errSize", laid_loop_example_s01586_impl_errSize), ("loop.example/s01586/impl.errLength", laid_loop_example_s01586_impl_errLength), ("loop.example/s01586/impl.errSum", laid_loop_example_s01586_impl_errSum), ("loop.example/s01586/impl.errKind", laid_loop_example_s01586_impl_errKind), ("loop.example/s01586/impl.errShape", laid_loop_example_s01586_impl_errShape), ("loop.example/s01586/impl.errValue", laid_loop_example_s01586_impl_errValue), ("loop.example/s01586/impl.errTorn", laid_loop_example_s01586_impl_errTorn), ("loop.example/s01586/impl.errBounds", laid_loop_example_s01586_impl_errBounds), ("loop.example/s01586/impl.errPlace", laid_loop_example_s01586_impl_errPlace), ("loop.example/s01586/impl.errRecords", laid_loop_example_s01586_impl_errRecords), ("loop.example/s01586/impl.errFull", laid_loop_example_s01586_impl_errFull)] }
def FnTornSaid : Prop := fnTornRow.holds Tryd.pinned (OpenSpec.ofChange fnTornSpec)

/-- ITS FALSE NEIGHBOUR: 'it returns false'. Refute it at one input. -/
def fnTornWrong : ChangeSpec := { name := "fnTorn", vars := ["loop.example/s01586/impl.errFull", "loop.example/s01586/impl.errRecords", "loop.example/s01586/impl.errTorn", "loop.example/s01586/impl.errBounds", "loop.example/s01586/impl.errSize", "loop.example/s01586/impl.errLength", "loop.example/s01586/impl.errSum", "loop.example/s01586/impl.errKind", "loop.example/s01586/impl.errValue", "loop.example/s01586/impl.errShape", "loop.example/s01586/impl.errPlace"], fn := fun _ => fun
  | [d, g1, g2, g3, g4, g5, g6, g7, g8, g9, g10, g11] => { results := [.lit (.bool false)], args := [d], vars := [g1, g2, g3, g4, g5, g6, g7, g8, g9, g10, g11] }
  | _ => none }
def FnTornWrongFalsely : Prop := fnTornRow.holds Tryd.pinned (OpenSpec.ofChange fnTornWrong)

/-- 'laws.FnExactEncodeRecords': WHATEVER THE INPUT: true; the input reads as it did. -/
def fnExactEncodeRecordsSpec : ChangeSpec := { name := "fnExactEncodeRecords", vars := ["loop.example/s01586/impl.errRecords"], fn := fun _ => fun
  | [d, g1] => { results := [.lit (.bool true)], args := [d], vars := [g1] }
  | _ => none }
def fnExactEncodeRecordsRow : OpenClaim := { program := "ytjoflnnomebkpaadoor", sum := "8d3f5bf2035ec6cbd8461fbf6433e5376982d9e1d6c86b28351b8043611f87b6", func := "loop.example/s01586/laws.FnExactEncodeRecords", spec := "fnExactEncodeRecords", unfollowed := true, recurses := true, named := ["loop.example/s01586/impl.errRecords"], ifaces := true, apart := false, laid := [("loop.example/s01586/impl.errRecords", laid_loop_example_s01586_impl_errRecords)] }
def FnExactEncodeRecordsSaid : Prop := fnExactEncodeRecordsRow.holds Tryd.pinned (OpenSpec.ofChange fnExactEncodeRecordsSpec)

/-- ITS FALSE NEIGHBOUR: 'it returns false'. Refute it at one input. -/
def fnExactEncodeRecordsWrong : ChangeSpec := { name := "fnExactEncodeRecords", vars := ["loop.example/s01586/impl.errRecords"], fn := fun _ => fun
  | [d, g1] => { results := [.lit (.bool false)], args := [d], vars := [g1] }
  | _ => none }
def FnExactEncodeRecordsWrongFalsely : Prop := fnExactEncodeRecordsRow.holds Tryd.pinned (OpenSpec.ofChange fnExactEncodeRecordsWrong)

/-- 'laws.FnExactDiskWrite': WHATEVER THE INPUT: true; the input reads as it did. -/
def fnExactDiskWriteSpec : ChangeSpec := { name := "fnExactDiskWrite", vars := ["loop.example/s01586/impl.errFull", "loop.example/s01586/impl.errRecords"], fn := fun _ => fun
  | [d1, d2, g1, g2] => { results := [.lit (.bool true)], args := [d1, d2], vars := [g1, g2] }
  | _ => none }
def fnExactDiskWriteRow : OpenClaim := { program := "ytjoflnnomebkpaadoor", sum := "8d3f5bf2035ec6cbd8461fbf6433e5376982d9e1d6c86b28351b8043611f87b6", func := "loop.example/s01586/laws.FnExactDiskWrite", spec := "fnExactDiskWrite", inPlace := ["internal/reflectlite.TypeOf"], unfollowed := true, recurses := true, named := ["loop.example/s01586/impl.errFull", "loop.example/s01586/impl.errRecords"], ifaces := true, apart := false, laid := [("loop.example/s01586/impl.errRecords", laid_loop_example_s01586_impl_errRecords), ("loop.example/s01586/impl.errFull", laid_loop_example_s01586_impl_errFull)] }
def FnExactDiskWriteSaid : Prop := fnExactDiskWriteRow.holds Tryd.pinned (OpenSpec.ofChange fnExactDiskWriteSpec)

/-- ITS FALSE NEIGHBOUR: 'it returns false'. Refute it at one input. -/
def fnExactDiskWriteWrong : ChangeSpec := { name := "fnExactDiskWrite", vars := ["loop.example/s01586/impl.errFull", "loop.example/s01586/impl.errRecords"], fn := fun _ => fun
  | [d1, d2, g1, g2] => { results := [.lit (.bool false)], args := [d1, d2], vars := [g1, g2] }
  | _ => none }
def FnExactDiskWriteWrongFalsely : Prop := fnExactDiskWriteRow.holds Tryd.pinned (OpenSpec.ofChange fnExactDiskWriteWrong)

/-- 'laws.FnExactRestart': WHATEVER THE INPUT: true; the input reads as it did. -/
def fnExactRestartSpec : ChangeSpec := { name := "fnExactRestart", vars := ["loop.example/s01586/impl.errTorn", "loop.example/s01586/impl.errBounds", "loop.example/s01586/impl.errSize", "loop.example/s01586/impl.errLength", "loop.example/s01586/impl.errSum", "loop.example/s01586/impl.errKind", "loop.example/s01586/impl.errValue", "loop.example/s01586/impl.errShape", "loop.example/s01586/impl.errPlace"], fn := fun _ => fun
  | [d, g1, g2, g3, g4, g5, g6, g7, g8, g9] => { results := [.lit (.bool true)], args := [d], vars := [g1, g2, g3, g4, g5, g6, g7, g8, g9] }
  | _ => none }
def fnExactRestartRow : OpenClaim := { program := "ytjoflnnomebkpaadoor", sum := "8d3f5bf2035ec6cbd8461fbf6433e5376982d9e1d6c86b28351b8043611f87b6", func := "loop.example/s01586/laws.FnExactRestart", spec := "fnExactRestart", inPlace := ["internal/reflectlite.TypeOf"], unfollowed := true, recurses := true, named := ["loop.example/s01586/impl.errTorn", "loop.example/s01586/impl.errBounds", "loop.example/s01586/impl.errSize", "loop.example/s01586/impl.errLength", "loop.example/s01586/impl.errSum", "loop.example/s01586/impl.errKind", "loop.example/s01586/impl.errValue", "loop.example/s01586/impl.errShape", "loop.example/s01586/impl.errPlace"], ifaces := true, apart := false, laid := [("loop.example/s01586/impl.errSize", laid_loop_example_s01586_impl_errSize), ("loop.example/s01586/impl.errLength", laid_loop_example_s01586_impl_errLength), ("loop.example/s01586/impl.errSum", laid_loop_example_s01586_impl_errSum), ("loop.example/s01586/impl.errKind", laid_loop_example_s01586_impl_errKind), ("loop.example/s01586/impl.errShape", laid_loop_example_s01586_impl_errShape), ("loop.example/s01586/impl.errValue", laid_loop_example_s01586_impl_errValue), ("loop.example/s01586/impl.errTorn", laid_loop_example_s01586_impl_errTorn), ("loop.example/s01586/impl.errBounds", laid_loop_example_s01586_impl_errBounds), ("loop.example/s01586/impl.errPlace", laid_loop_example_s01586_impl_errPlace)] }
def FnExactRestartSaid : Prop := fnExactRestartRow.holds Tryd.pinned (OpenSpec.ofChange fnExactRestartSpec)

/-- ITS FALSE NEIGHBOUR: 'it returns false'. Refute it at one input. -/
def fnExactRestartWrong : ChangeSpec := { name := "fnExactRestart", vars := ["loop.example/s01586/impl.errTorn", "loop.example/s01586/impl.errBounds", "loop.example/s01586/impl.errSize", "loop.example/s01586/impl.errLength", "loop.example/s01586/impl.errSum", "loop.example/s01586/impl.errKind", "loop.example/s01586/impl.errValue", "loop.example/s01586/impl.errShape", "loop.example/s01586/impl.errPlace"], fn := fun _ => fun
  | [d, g1, g2, g3, g4, g5, g6, g7, g8, g9] => { results := [.lit (.bool false)], args := [d], vars := [g1, g2, g3, g4, g5, g6, g7, g8, g9] }
  | _ => none }
def FnExactRestartWrongFalsely : Prop := fnExactRestartRow.holds Tryd.pinned (OpenSpec.ofChange fnExactRestartWrong)

/- THE SECOND FORM. 'bulk': how many values and letters a reading holds, each counted each time it is reached (what is shared counts as often as it is met; a slice's spare places count too). A statement '..UptoSaid' is the law's where the arguments, and the package variables that the reading takes, are together of bulk at most 1048576: NARROWER than '..Said'. Prove '..Said' where nothing that the law and all that it calls make is longer than what came in: it says more and counts as full. Else prove '..UptoSaid'. A law counts once. -/
mutual
def uptoBulk {H : Type} : DataW H → Nat
  | .lit (.string bytes) => bytes.length + 1
  | .lit _ => 1
  | .nil => 1
  | .ptr d => uptoBulk d + 1
  | .slice elems spare => uptoBulkAll elems + uptoBulkAll spare + 1
  | .agg parts => uptoBulkAll parts + 1
  | .iface _ d => uptoBulk d + 1
  | .map entries => uptoBulkEntries entries + 1
  | .held _ => 1
def uptoBulkAll {H : Type} : List (DataW H) → Nat
  | [] => 0
  | d :: r => uptoBulk d + uptoBulkAll r
def uptoBulkEntries {H : Type} : List (Lit × DataW H) → Nat
  | [] => 0
  | x :: r => uptoBulkEntry x + uptoBulkEntries r
def uptoBulkEntry {H : Type} : Lit × DataW H → Nat
  | (.string bytes, d) => bytes.length + uptoBulk d + 1
  | (_, d) => uptoBulk d + 1
 end
def uptoSmall : (H : Type) → List (DataW H) → Bool := fun _ ds => decide (uptoBulkAll ds ≤ 1048576)
def OpenSpec.upto (s : _root_.Go.ChangeSpec) : _root_.Go.OpenSpec := { _root_.Go.OpenSpec.ofChange s with cond := some uptoSmall }

/-- 'laws.FnDisk', WHERE WHAT IT READS IS OF BULK AT MOST 1048576: true; the input reads as it did. -/
def fnDiskUptoRow : OpenClaim := { program := "ytjoflnnomebkpaadoor", sum := "8d3f5bf2035ec6cbd8461fbf6433e5376982d9e1d6c86b28351b8043611f87b6", func := "loop.example/s01586/laws.FnDisk", spec := "fnDisk", inPlace := ["internal/reflectlite.TypeOf"], unfollowed := true, recurses := true, named := ["loop.example/s01586/impl.errRecords", "loop.example/s01586/impl.errFull"], ifaces := true, apart := false, laid := [("loop.example/s01586/impl.errRecords", laid_loop_example_s01586_impl_errRecords), ("loop.example/s01586/impl.errFull", laid_loop_example_s01586_impl_errFull)], narrowed := true }
def FnDiskUptoSaid : Prop := fnDiskUptoRow.holds Tryd.pinned (OpenSpec.upto fnDiskSpec)

/-- 'laws.FnTorn', WHERE WHAT IT READS IS OF BULK AT MOST 1048576: true; the input reads as it did. -/
def fnTornUptoRow : OpenClaim := { program := "ytjoflnnomebkpaadoor", sum := "8d3f5bf2035ec6cbd8461fbf6433e5376982d9e1d6c86b28351b8043611f87b6", func := "loop.example/s01586/laws.FnTorn", spec := "fnTorn", inPlace := ["internal/reflectlite.TypeOf"], unfollowed := true, recurses := true, named := ["loop.example/s01586/impl.errFull", "loop.example/s01586/impl.errRecords", "loop.example/s01586/impl.errTorn", "loop.example/s01586/impl.errBounds", "loop.example/s01586/impl.errSize", "loop.example/s01586/impl.errLength", "loop.example/s01586/impl.errSum", "loop.example/s01586/impl.errKind", "loop.example/s01586/impl.errValue", "loop.example/s01586/impl.errShape", "loop.example/s01586/impl.errPlace"], ifaces := true, apart := false, laid := [("loop.example/s01586/impl.errSize", laid_loop_example_s01586_impl_errSize), ("loop.example/s01586/impl.errLength", laid_loop_example_s01586_impl_errLength), ("loop.example/s01586/impl.errSum", laid_loop_example_s01586_impl_errSum), ("loop.example/s01586/impl.errKind", laid_loop_example_s01586_impl_errKind), ("loop.example/s01586/impl.errShape", laid_loop_example_s01586_impl_errShape), ("loop.example/s01586/impl.errValue", laid_loop_example_s01586_impl_errValue), ("loop.example/s01586/impl.errTorn", laid_loop_example_s01586_impl_errTorn), ("loop.example/s01586/impl.errBounds", laid_loop_example_s01586_impl_errBounds), ("loop.example/s01586/impl.errPlace", laid_loop_example_s01586_impl_errPlace), ("loop.example/s01586/impl.errRecords", laid_loop_example_s01586_impl_errRecords), ("loop.example/s01586/impl.errFull", laid_loop_example_s01586_impl_errFull)], narrowed := true }
def FnTornUptoSaid : Prop := fnTornUptoRow.holds Tryd.pinned (OpenSpec.upto fnTornSpec)

/-- 'laws.FnExactEncodeRecords', WHERE WHAT IT READS IS OF BULK AT MOST 1048576: true; the input reads as it did. -/
def fnExactEncodeRecordsUptoRow : OpenClaim := { program := "ytjoflnnomebkpaadoor", sum := "8d3f5bf2035ec6cbd8461fbf6433e5376982d9e1d6c86b28351b8043611f87b6", func := "loop.example/s01586/laws.FnExactEncodeRecords", spec := "fnExactEncodeRecords", unfollowed := true, recurses := true, named := ["loop.example/s01586/impl.errRecords"], ifaces := true, apart := false, laid := [("loop.example/s01586/impl.errRecords", laid_loop_example_s01586_impl_errRecords)], narrowed := true }
def FnExactEncodeRecordsUptoSaid : Prop := fnExactEncodeRecordsUptoRow.holds Tryd.pinned (OpenSpec.upto fnExactEncodeRecordsSpec)

/-- 'laws.FnExactDiskWrite', WHERE WHAT IT READS IS OF BULK AT MOST 1048576: true; the input reads as it did. -/
def fnExactDiskWriteUptoRow : OpenClaim := { program := "ytjoflnnomebkpaadoor", sum := "8d3f5bf2035ec6cbd8461fbf6433e5376982d9e1d6c86b28351b8043611f87b6", func := "loop.example/s01586/laws.FnExactDiskWrite", spec := "fnExactDiskWrite", inPlace := ["internal/reflectlite.TypeOf"], unfollowed := true, recurses := true, named := ["loop.example/s01586/impl.errFull", "loop.example/s01586/impl.errRecords"], ifaces := true, apart := false, laid := [("loop.example/s01586/impl.errRecords", laid_loop_example_s01586_impl_errRecords), ("loop.example/s01586/impl.errFull", laid_loop_example_s01586_impl_errFull)], narrowed := true }
def FnExactDiskWriteUptoSaid : Prop := fnExactDiskWriteUptoRow.holds Tryd.pinned (OpenSpec.upto fnExactDiskWriteSpec)

/-- 'laws.FnExactRestart', WHERE WHAT IT READS IS OF BULK AT MOST 1048576: true; the input reads as it did. -/
def fnExactRestartUptoRow : OpenClaim := { program := "ytjoflnnomebkpaadoor", sum := "8d3f5bf2035ec6cbd8461fbf6433e5376982d9e1d6c86b28351b8043611f87b6", func := "loop.example/s01586/laws.FnExactRestart", spec := "fnExactRestart", inPlace := ["internal/reflectlite.TypeOf"], unfollowed := true, recurses := true, named := ["loop.example/s01586/impl.errTorn", "loop.example/s01586/impl.errBounds", "loop.example/s01586/impl.errSize", "loop.example/s01586/impl.errLength", "loop.example/s01586/impl.errSum", "loop.example/s01586/impl.errKind", "loop.example/s01586/impl.errValue", "loop.example/s01586/impl.errShape", "loop.example/s01586/impl.errPlace"], ifaces := true, apart := false, laid := [("loop.example/s01586/impl.errSize", laid_loop_example_s01586_impl_errSize), ("loop.example/s01586/impl.errLength", laid_loop_example_s01586_impl_errLength), ("loop.example/s01586/impl.errSum", laid_loop_example_s01586_impl_errSum), ("loop.example/s01586/impl.errKind", laid_loop_example_s01586_impl_errKind), ("loop.example/s01586/impl.errShape", laid_loop_example_s01586_impl_errShape), ("loop.example/s01586/impl.errValue", laid_loop_example_s01586_impl_errValue), ("loop.example/s01586/impl.errTorn", laid_loop_example_s01586_impl_errTorn), ("loop.example/s01586/impl.errBounds", laid_loop_example_s01586_impl_errBounds), ("loop.example/s01586/impl.errPlace", laid_loop_example_s01586_impl_errPlace)], narrowed := true }
def FnExactRestartUptoSaid : Prop := fnExactRestartUptoRow.holds Tryd.pinned (OpenSpec.upto fnExactRestartSpec)

end Rows
end Go.Proofs.YtjoflnnomebkpaaDoor
