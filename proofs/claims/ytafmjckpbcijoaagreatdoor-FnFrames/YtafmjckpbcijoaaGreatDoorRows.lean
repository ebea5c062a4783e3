/-
  NARROWER THAN 'FOR EVERY INPUT', by the rows' own cells (each row's printed sentence says how): FnSpoilt: ifaces, laid · FnFrames: ifaces, laid.
  DERIVED. THE GIVEN ROWS OF THIS SEAT. 2 by the template 'for every input the law returns true; each argument reads behind the call as it read before'; 0 by the template 'total and deterministic' (their statements: YtafmjckpbcijoaaGreatDoorTotals.lean).
  GIVEN WITH THE SEED: the statements are not yours to turn. If you find one false, say at which input.
  Laid BY PROGRAM, IN A SANDBOX (cutbox-rows.mjs): the forced cells as the released guide's own fill.sh prints them over the translation 4ce4c0cc4387caee… (all of the seat's roots in one cut). By AI agents, Wed Nov 11 2026. No macro, syntax, notation, axiom, sorry.
-/
import Derived.Test.YtafmjckpbcijoaaGreatDoorChecked
import GoSem.Claim
import GoSem.ClaimJoined
import GoSem.ClaimMapViews
import Derived.JoinedTies
import Derived.KernelRfl
namespace Go.Proofs.YtafmjckpbcijoaaGreatDoor
/- THE CELL 'sum', in the pinned program and in every row, IS THE sha256 OF THE DUMP (.gsa) THAT YtafmjckpbcijoaaGreatDoorProg.lean LOADS. Nothing in Lean hashes anything: it is a label: what it is worth is what the hold of that sum in a sandbox is worth. -/
noncomputable def Tryz.pinned : Pinned := { name := "ytafmjckpbcijoaagreatdoor", sum := "4ce4c0cc4387caeed003f4ddfcbc32418786a3340d34846742468579bbe592b1", checked := Tryz.checked }
namespace Rows
def none {H : Type} : Left H := { results := [], args := [] }

/- WHAT THE LISTED PACKAGE-LEVEL VARIABLES READ AS WHEN THE CALL BEGINS. Each datum BY PROGRAM (the guide's laid-datum.mjs) off the statement by which the dump's own 'gosem.cut.vars' lays the variable. In a bare row this is a premise. The card (YtafmjckpbcijoaaGreatDoorCards.lean) ties it to the program's text. -/
def laid_errors_errorType {H : Type} : DataW H := .iface "internal/reflectlite.rtype" (.agg [.ptr (.lit (.string [101, 114, 114, 111, 114]))])
def laid_loop_example_s01586_impl_errSize {H : Type} : DataW H := .iface "*errors.errorString" (.ptr (.agg [.lit (.string [97, 32, 102, 114, 97, 109, 101, 32, 104, 97, 115, 32, 57, 32, 116, 111, 32, 49, 54, 51, 56, 52, 32, 98, 121, 116, 101, 115])]))
def laid_loop_example_s01586_impl_errLength {H : Type} : DataW H := .iface "*errors.errorString" (.ptr (.agg [.lit (.string [116, 104, 101, 32, 108, 101, 110, 103, 116, 104, 32, 116, 111, 108, 100, 32, 105, 115, 32, 110, 111, 116, 32, 116, 104, 97, 116, 32, 111, 102, 32, 116, 104, 101, 32, 98, 111, 100, 121])]))
def laid_loop_example_s01586_impl_errSum {H : Type} : DataW H := .iface "*errors.errorString" (.ptr (.agg [.lit (.string [116, 104, 101, 32, 99, 104, 101, 99, 107, 32, 115, 117, 109, 32, 116, 111, 108, 100, 32, 105, 115, 32, 110, 111, 116, 32, 116, 104, 97, 116, 32, 111, 102, 32, 116, 104, 101, 32, 98, 111, 100, 121])]))
def laid_loop_example_s01586_impl_errKind {H : Type} : DataW H := .iface "*errors.errorString" (.ptr (.agg [.lit (.string [116, 104, 101, 32, 107, 105, 110, 100, 32, 105, 115, 32, 110, 111, 116, 32, 111, 110, 101, 32, 111, 102, 32, 116, 104, 105, 115, 32, 100, 101, 99, 111, 100, 101, 114])]))
def laid_loop_example_s01586_impl_errShape {H : Type} : DataW H := .iface "*errors.errorString" (.ptr (.agg [.lit (.string [116, 104, 101, 32, 98, 111, 100, 121, 32, 100, 111, 101, 115, 32, 110, 111, 116, 32, 114, 101, 97, 100])]))
def laid_loop_example_s01586_impl_errValue {H : Type} : DataW H := .iface "*errors.errorString" (.ptr (.agg [.lit (.string [116, 104, 101, 32, 118, 97, 108, 117, 101, 32, 105, 115, 32, 105, 108, 108, 45, 102, 111, 114, 109, 101, 100])]))

/-- 'laws.FnSpoilt': WHATEVER THE INPUT: true; the input reads as it did. -/
def fnSpoiltSpec : ChangeSpec := { name := "fnSpoilt", vars := ["loop.example/s01586/impl.errKind", "loop.example/s01586/impl.errValue", "loop.example/s01586/impl.errSize", "loop.example/s01586/impl.errLength", "loop.example/s01586/impl.errSum", "loop.example/s01586/impl.errShape"], fn := fun _ => fun
  | [d1, d2, g1, g2, g3, g4, g5, g6] => { results := [.lit (.bool true)], args := [d1, d2], vars := [g1, g2, g3, g4, g5, g6] }
  | _ => none }
def fnSpoiltRow : OpenClaim := { program := "ytafmjckpbcijoaagreatdoor", sum := "4ce4c0cc4387caeed003f4ddfcbc32418786a3340d34846742468579bbe592b1", func := "loop.example/s01586/laws.FnSpoilt", spec := "fnSpoilt", inPlace := ["internal/reflectlite.TypeOf", "internal/reflectlite.ValueOf", "(internal/reflectlite.Value).Type", "(internal/reflectlite.Value).IsNil", "(internal/reflectlite.Value).Elem", "(internal/reflectlite.Value).Set"], unfollowed := true, recurses := true, named := ["loop.example/s01586/impl.errKind", "loop.example/s01586/impl.errValue", "loop.example/s01586/impl.errSize", "loop.example/s01586/impl.errLength", "loop.example/s01586/impl.errSum", "loop.example/s01586/impl.errShape", "errors.errorType"], ifaces := true, apart := false, laid := [("errors.errorType", laid_errors_errorType), ("loop.example/s01586/impl.errSize", laid_loop_example_s01586_impl_errSize), ("loop.example/s01586/impl.errLength", laid_loop_example_s01586_impl_errLength), ("loop.example/s01586/impl.errSum", laid_loop_example_s01586_impl_errSum), ("loop.example/s01586/impl.errKind", laid_loop_example_s01586_impl_errKind), ("loop.example/s01586/impl.errShape", laid_loop_example_s01586_impl_errShape), ("loop.example/s01586/impl.errValue", laid_loop_example_s01586_impl_errValue)] }
def FnSpoiltSaid : Prop := fnSpoiltRow.holds Tryz.pinned (OpenSpec.ofChange fnSpoiltSpec)

/-- ITS FALSE NEIGHBOUR: 'it returns false'. Refute it at one input. -/
def fnSpoiltWrong : ChangeSpec := { name := "fnSpoilt", vars := ["loop.example/s01586/impl.errKind", "loop.example/s01586/impl.errValue", "loop.example/s01586/impl.errSize", "loop.example/s01586/impl.errLength", "loop.example/s01586/impl.errSum", "loop.example/s01586/impl.errShape"], fn := fun _ => fun
  | [d1, d2, g1, g2, g3, g4, g5, g6] => { results := [.lit (.bool false)], args := [d1, d2], vars := [g1, g2, g3, g4, g5, g6] }
  | _ => none }
def FnSpoiltWrongFalsely : Prop := fnSpoiltRow.holds Tryz.pinned (OpenSpec.ofChange fnSpoiltWrong)

/-- 'laws.FnFrames': WHATEVER THE INPUT: true; the input reads as it did. -/
def fnFramesSpec : ChangeSpec := { name := "fnFrames", vars := ["loop.example/s01586/impl.errKind", "loop.example/s01586/impl.errValue", "loop.example/s01586/impl.errSize", "loop.example/s01586/impl.errLength", "loop.example/s01586/impl.errSum", "loop.example/s01586/impl.errShape"], fn := fun _ => fun
  | [d, g1, g2, g3, g4, g5, g6] => { results := [.lit (.bool true)], args := [d], vars := [g1, g2, g3, g4, g5, g6] }
  | _ => none }
def fnFramesRow : OpenClaim := { program := "ytafmjckpbcijoaagreatdoor", sum := "4ce4c0cc4387caeed003f4ddfcbc32418786a3340d34846742468579bbe592b1", func := "loop.example/s01586/laws.FnFrames", spec := "fnFrames", inPlace := ["internal/reflectlite.TypeOf", "internal/reflectlite.ValueOf", "(internal/reflectlite.Value).Type", "(internal/reflectlite.Value).IsNil", "(internal/reflectlite.Value).Elem", "(internal/reflectlite.Value).Set"], unfollowed := true, recurses := true, named := ["loop.example/s01586/impl.errKind", "loop.example/s01586/impl.errValue", "loop.example/s01586/impl.errSize", "loop.example/s01586/impl.errLength", "loop.example/s01586/impl.errSum", "loop.example/s01586/impl.errShape", "errors.errorType"], ifaces := true, apart := false, laid := [("errors.errorType", laid_errors_errorType), ("loop.example/s01586/impl.errSize", laid_loop_example_s01586_impl_errSize), ("loop.example/s01586/impl.errLength", laid_loop_example_s01586_impl_errLength), ("loop.example/s01586/impl.errSum", laid_loop_example_s01586_impl_errSum), ("loop.example/s01586/impl.errKind", laid_loop_example_s01586_impl_errKind), ("loop.example/s01586/impl.errShape", laid_loop_example_s01586_impl_errShape), ("loop.example/s01586/impl.errValue", laid_loop_example_s01586_impl_errValue)] }
def FnFramesSaid : Prop := fnFramesRow.holds Tryz.pinned (OpenSpec.ofChange fnFramesSpec)

/-- ITS FALSE NEIGHBOUR: 'it returns false'. Refute it at one input. -/
def fnFramesWrong : ChangeSpec := { name := "fnFrames", vars := ["loop.example/s01586/impl.errKind", "loop.example/s01586/impl.errValue", "loop.example/s01586/impl.errSize", "loop.example/s01586/impl.errLength", "loop.example/s01586/impl.errSum", "loop.example/s01586/impl.errShape"], fn := fun _ => fun
  | [d, g1, g2, g3, g4, g5, g6] => { results := [.lit (.bool false)], args := [d], vars := [g1, g2, g3, g4, g5, g6] }
  | _ => none }
def FnFramesWrongFalsely : Prop := fnFramesRow.holds Tryz.pinned (OpenSpec.ofChange fnFramesWrong)

/- THE SECOND FORM. 'bulk': how many values and letters a reading holds, each counted each time it is reached (what is shared counts as often as it is met; a slice's spare places count too). A statement '..UptoSaid' is the law's where the arguments, and the package variables that the reading takes, are together of bulk at most 1048576: NARROWER than '..Said'. Prove '..Said' where nothing that the law and all that it calls make is longer than what came in: it says more and counts as full. Else prove '..UptoSaid'. A law counts once. -/
mutual
def uptoBulk {H : Type} : DataW H → Nat
  | .lit (.string bytes) => bytes.length + 1
  | .lit _ => 1
  | .nil => 1
  | .ptr d => uptoBulk d + 1
  | .slice elems spare => uptoBulkAll elems + uptoBulkAll spare + 1
  | .agg parts => uptoBulkAll parts + 1
  | .iface _ d => uptoBulk d + 1
  | .map entries => uptoBulkEntries entries + 1
  | .held _ => 1
def uptoBulkAll {H : Type} : List (DataW H) → Nat
  | [] => 0
  | d :: r => uptoBulk d + uptoBulkAll r
def uptoBulkEntries {H : Type} : List (Lit × DataW H) → Nat
  | [] => 0
  | x :: r => uptoBulkEntry x + uptoBulkEntries r
def uptoBulkEntry {H : Type} : Lit × DataW H → Nat
  | (.string bytes, d) => bytes.length + uptoBulk d + 1
  | (_, d) => uptoBulk d + 1
 end
def uptoSmall : (H : Type) → List (DataW H) → Bool := fun _ ds => decide (uptoBulkAll ds ≤ 1048576)
def OpenSpec.upto (s : _root_.Go.ChangeSpec) : _root_.Go.OpenSpec := { _root_.Go.OpenSpec.ofChange s with cond := some uptoSmall }

/-- 'laws.FnSpoilt', WHERE WHAT IT READS IS OF BULK AT MOST 1048576: true; the input reads as it did. -/
def fnSpoiltUptoRow : OpenClaim := { program := "ytafmjckpbcijoaagreatdoor", sum := "4ce4c0cc4387caeed003f4ddfcbc32418786a3340d34846742468579bbe592b1", func := "loop.example/s01586/laws.FnSpoilt", spec := "fnSpoilt", inPlace := ["internal/reflectlite.TypeOf", "internal/reflectlite.ValueOf", "(internal/reflectlite.Value).Type", "(internal/reflectlite.Value).IsNil", "(internal/reflectlite.Value).Elem", "(internal/reflectlite.Value).Set"], unfollowed := true, recurses := true, named := ["loop.example/s01586/impl.errKind", "loop.example/s01586/impl.errValue", "loop.example/s01586/impl.errSize", "loop.example/s01586/impl.errLength", "loop.example/s01586/impl.errSum", "loop.example/s01586/impl.errShape", "errors.errorType"], ifaces := true, apart := false, laid := [("errors.errorType", laid_errors_errorType), ("loop.example/s01586/impl.errSize", laid_loop_example_s01586_impl_errSize), ("loop.example/s01586/impl.errLength", laid_loop_example_s01586_impl_errLength), ("loop.example/s01586/impl.errSum", laid_loop_example_s01586_impl_errSum), ("loop.example/s01586/impl.errKind", laid_loop_example_s01586_impl_errKind), ("loop.example/s01586/impl.errShape", laid_loop_example_s01586_impl_errShape), ("loop.example/s01586/impl.errValue", laid_loop_example_s01586_impl_errValue)], narrowed := true }
def FnSpoiltUptoSaid : Prop := fnSpoiltUptoRow.holds Tryz.pinned (OpenSpec.upto fnSpoiltSpec)

/-- 'laws.FnFrames', WHERE WHAT IT READS IS OF BULK AT MOST 1048576: true; the input reads as it did. -/
def fnFramesUptoRow : OpenClaim := { program := "ytafmjckpbcijoaagreatdoor", sum := "4ce4c0cc4387caeed003f4ddfcbc32418786a3340d34846742468579bbe592b1", func := "loop.example/s01586/laws.FnFrames", spec := "fnFrames", inPlace := ["internal/reflectlite.TypeOf", "internal/reflectlite.ValueOf", "(internal/reflectlite.Value).Type", "(internal/reflectlite.Value).IsNil", "(internal/reflectlite.Value).Elem", "(internal/reflectlite.Value).Set"], unfollowed := true, recurses := true, named := ["loop.example/s01586/impl.errKind", "loop.example/s01586/impl.errValue", "loop.example/s01586/impl.errSize", "loop.example/s01586/impl.errLength", "loop.example/s01586/impl.errSum", "loop.example/s01586/impl.errShape", "errors.errorType"], ifaces := true, apart := false, laid := [("errors.errorType", laid_errors_errorType), ("loop.example/s01586/impl.errSize", laid_loop_example_s01586_impl_errSize), ("loop.example/s01586/impl.errLength", laid_loop_example_s01586_impl_errLength), ("loop.example/s01586/impl.errSum", laid_loop_example_s01586_impl_errSum), ("loop.example/s01586/impl.errKind", laid_loop_example_s01586_impl_errKind), ("loop.example/s01586/impl.errShape", laid_loop_example_s01586_impl_errShape), ("loop.example/s01586/impl.errValue", laid_loop_example_s01586_impl_errValue)], narrowed := true }
def FnFramesUptoSaid : Prop := fnFramesUptoRow.holds Tryz.pinned (OpenSpec.upto fnFramesSpec)

end Rows
end Go.Proofs.YtafmjckpbcijoaaGreatDoor
