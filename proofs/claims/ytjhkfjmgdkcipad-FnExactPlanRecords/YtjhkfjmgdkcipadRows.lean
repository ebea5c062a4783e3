/-
  No cell of these rows narrows 'for every input' (looked for: loops, veiled, ifaces, maps, wideKeys, modest, calm, conditions, laid).
  DERIVED. THE GIVEN ROWS OF THIS SEAT. 5 by the template 'for every input the law returns true; each argument reads behind the call as it read before'; 0 by the template 'total and deterministic' (their statements: YtjhkfjmgdkcipadTotals.lean).
  GIVEN WITH THE SEED: the statements are not yours to turn. If you find one false, say at which input.
  Laid BY PROGRAM, IN A SANDBOX (cutbox-rows.mjs): the forced cells as the released guide's own fill.sh prints them over the translation a4eba6b86227ea18… (all of the seat's roots in one cut). By AI agents, Wed Nov 11 2026. No macro, syntax, notation, axiom, sorry.
-/
import Derived.Test.YtjhkfjmgdkcipadChecked
import GoSem.Claim
import GoSem.ClaimJoined
import GoSem.ClaimMapViews
import Derived.JoinedTies
import Derived.KernelRfl
namespace Go.Proofs.Ytjhkfjmgdkcipad
/- THE CELL 'sum', in the pinned program and in every row, IS THE sha256 OF THE DUMP (.gsa) THAT YtjhkfjmgdkcipadProg.lean LOADS. Nothing in Lean hashes anything: it is a label: what it is worth is what the hold of that sum in a sandbox is worth. -/
noncomputable def Try.pinned : Pinned := { name := "ytjhkfjmgdkcipad", sum := "a4eba6b86227ea18664642be0ab2b133d7ccf23d290cac1478ae0c5a1a6b3dde", checked := Try.checked }
namespace Rows
def none {H : Type} : Left H := { results := [], args := [] }

/-- 'laws.FnOnce': WHATEVER THE INPUT: true; the input reads as it did. -/
def fnOnceSpec : ChangeSpec := { name := "fnOnce", fn := fun _ => fun
  | [d] => { results := [.lit (.bool true)], args := [d] }
  | _ => none }
def fnOnceRow : OpenClaim := { program := "ytjhkfjmgdkcipad", sum := "a4eba6b86227ea18664642be0ab2b133d7ccf23d290cac1478ae0c5a1a6b3dde", func := "loop.example/s01586/laws.FnOnce", spec := "fnOnce", unfollowed := true, recurses := true, apart := false }
def FnOnceSaid : Prop := fnOnceRow.holds Try.pinned (OpenSpec.ofChange fnOnceSpec)

/-- ITS FALSE NEIGHBOUR: 'it returns false'. Refute it at one input. -/
def fnOnceWrong : ChangeSpec := { name := "fnOnce", fn := fun _ => fun
  | [d] => { results := [.lit (.bool false)], args := [d] }
  | _ => none }
def FnOnceWrongFalsely : Prop := fnOnceRow.holds Try.pinned (OpenSpec.ofChange fnOnceWrong)

/-- 'laws.FnExactPlanRecords': WHATEVER THE INPUT: true; the input reads as it did. -/
def fnExactPlanRecordsSpec : ChangeSpec := { name := "fnExactPlanRecords", fn := fun _ => fun
  | [d1, d2] => { results := [.lit (.bool true)], args := [d1, d2] }
  | _ => none }
def fnExactPlanRecordsRow : OpenClaim := { program := "ytjhkfjmgdkcipad", sum := "a4eba6b86227ea18664642be0ab2b133d7ccf23d290cac1478ae0c5a1a6b3dde", func := "loop.example/s01586/laws.FnExactPlanRecords", spec := "fnExactPlanRecords", apart := false }
def FnExactPlanRecordsSaid : Prop := fnExactPlanRecordsRow.holds Try.pinned (OpenSpec.ofChange fnExactPlanRecordsSpec)

/-- ITS FALSE NEIGHBOUR: 'it returns false'. Refute it at one input. -/
def fnExactPlanRecordsWrong : ChangeSpec := { name := "fnExactPlanRecords", fn := fun _ => fun
  | [d1, d2] => { results := [.lit (.bool false)], args := [d1, d2] }
  | _ => none }
def FnExactPlanRecordsWrongFalsely : Prop := fnExactPlanRecordsRow.holds Try.pinned (OpenSpec.ofChange fnExactPlanRecordsWrong)

/-- 'laws.FnExactNodeFault': WHATEVER THE INPUT: true; the input reads as it did. -/
def fnExactNodeFaultSpec : ChangeSpec := { name := "fnExactNodeFault", fn := fun _ => fun
  | [d] => { results := [.lit (.bool true)], args := [d] }
  | _ => none }
def fnExactNodeFaultRow : OpenClaim := { program := "ytjhkfjmgdkcipad", sum := "a4eba6b86227ea18664642be0ab2b133d7ccf23d290cac1478ae0c5a1a6b3dde", func := "loop.example/s01586/laws.FnExactNodeFault", spec := "fnExactNodeFault", apart := false }
def FnExactNodeFaultSaid : Prop := fnExactNodeFaultRow.holds Try.pinned (OpenSpec.ofChange fnExactNodeFaultSpec)

/-- ITS FALSE NEIGHBOUR: 'it returns false'. Refute it at one input. -/
def fnExactNodeFaultWrong : ChangeSpec := { name := "fnExactNodeFault", fn := fun _ => fun
  | [d] => { results := [.lit (.bool false)], args := [d] }
  | _ => none }
def FnExactNodeFaultWrongFalsely : Prop := fnExactNodeFaultRow.holds Try.pinned (OpenSpec.ofChange fnExactNodeFaultWrong)

/-- 'laws.FnExactBagWall': WHATEVER THE INPUT: true; the input reads as it did. -/
def fnExactBagWallSpec : ChangeSpec := { name := "fnExactBagWall", fn := fun _ => fun
  | [d1, d2, d3] => { results := [.lit (.bool true)], args := [d1, d2, d3] }
  | _ => none }
def fnExactBagWallRow : OpenClaim := { program := "ytjhkfjmgdkcipad", sum := "a4eba6b86227ea18664642be0ab2b133d7ccf23d290cac1478ae0c5a1a6b3dde", func := "loop.example/s01586/laws.FnExactBagWall", spec := "fnExactBagWall", unfollowed := true, recurses := true, apart := false }
def FnExactBagWallSaid : Prop := fnExactBagWallRow.holds Try.pinned (OpenSpec.ofChange fnExactBagWallSpec)

/-- ITS FALSE NEIGHBOUR: 'it returns false'. Refute it at one input. -/
def fnExactBagWallWrong : ChangeSpec := { name := "fnExactBagWall", fn := fun _ => fun
  | [d1, d2, d3] => { results := [.lit (.bool false)], args := [d1, d2, d3] }
  | _ => none }
def FnExactBagWallWrongFalsely : Prop := fnExactBagWallRow.holds Try.pinned (OpenSpec.ofChange fnExactBagWallWrong)

/-- 'laws.FnExactApplyLog': WHATEVER THE INPUT: true; the input reads as it did. -/
def fnExactApplyLogSpec : ChangeSpec := { name := "fnExactApplyLog", fn := fun _ => fun
  | [d1, d2] => { results := [.lit (.bool true)], args := [d1, d2] }
  | _ => none }
def fnExactApplyLogRow : OpenClaim := { program := "ytjhkfjmgdkcipad", sum := "a4eba6b86227ea18664642be0ab2b133d7ccf23d290cac1478ae0c5a1a6b3dde", func := "loop.example/s01586/laws.FnExactApplyLog", spec := "fnExactApplyLog", unfollowed := true, recurses := true, apart := false }
def FnExactApplyLogSaid : Prop := fnExactApplyLogRow.holds Try.pinned (OpenSpec.ofChange fnExactApplyLogSpec)

/-- ITS FALSE NEIGHBOUR: 'it returns false'. Refute it at one input. -/
def fnExactApplyLogWrong : ChangeSpec := { name := "fnExactApplyLog", fn := fun _ => fun
  | [d1, d2] => { results := [.lit (.bool false)], args := [d1, d2] }
  | _ => none }
def FnExactApplyLogWrongFalsely : Prop := fnExactApplyLogRow.holds Try.pinned (OpenSpec.ofChange fnExactApplyLogWrong)

/- THE SECOND FORM. 'bulk': how many values and letters a reading holds, each counted each time it is reached (what is shared counts as often as it is met; a slice's spare places count too). A statement '..UptoSaid' is the law's where the arguments, and the package variables that the reading takes, are together of bulk at most 1048576: NARROWER than '..Said'. Prove '..Said' where nothing that the law and all that it calls make is longer than what came in: it says more and counts as full. Else prove '..UptoSaid'. A law counts once. -/
mutual
def uptoBulk {H : Type} : DataW H → Nat
  | .lit (.string bytes) => bytes.length + 1
  | .lit _ => 1
  | .nil => 1
  | .ptr d => uptoBulk d + 1
  | .slice elems spare => uptoBulkAll elems + uptoBulkAll spare + 1
  | .agg parts => uptoBulkAll parts + 1
  | .iface _ d => uptoBulk d + 1
  | .map entries => uptoBulkEntries entries + 1
  | .held _ => 1
def uptoBulkAll {H : Type} : List (DataW H) → Nat
  | [] => 0
  | d :: r => uptoBulk d + uptoBulkAll r
def uptoBulkEntries {H : Type} : List (Lit × DataW H) → Nat
  | [] => 0
  | x :: r => uptoBulkEntry x + uptoBulkEntries r
def uptoBulkEntry {H : Type} : Lit × DataW H → Nat
  | (.string bytes, d) => bytes.length + uptoBulk d + 1
  | (_, d) => uptoBulk d + 1
 end
def uptoSmall : (H : Type) → List (DataW H) → Bool := fun _ ds => decide (uptoBulkAll ds ≤ 1048576)
def OpenSpec.upto (s : _root_.Go.ChangeSpec) : _root_.Go.OpenSpec := { _root_.Go.OpenSpec.ofChange s with cond := some uptoSmall }

/-- 'laws.FnOnce', WHERE WHAT IT READS IS OF BULK AT MOST 1048576: true; the input reads as it did. -/
def fnOnceUptoRow : OpenClaim := { program := "ytjhkfjmgdkcipad", sum := "a4eba6b86227ea18664642be0ab2b133d7ccf23d290cac1478ae0c5a1a6b3dde", func := "loop.example/s01586/laws.FnOnce", spec := "fnOnce", unfollowed := true, recurses := true, apart := false, narrowed := true }
def FnOnceUptoSaid : Prop := fnOnceUptoRow.holds Try.pinned (OpenSpec.upto fnOnceSpec)

/-- 'laws.FnExactPlanRecords', WHERE WHAT IT READS IS OF BULK AT MOST 1048576: true; the input reads as it did. -/
def fnExactPlanRecordsUptoRow : OpenClaim := { program := "ytjhkfjmgdkcipad", sum := "a4eba6b86227ea18664642be0ab2b133d7ccf23d290cac1478ae0c5a1a6b3dde", func := "loop.example/s01586/laws.FnExactPlanRecords", spec := "fnExactPlanRecords", apart := false, narrowed := true }
def FnExactPlanRecordsUptoSaid : Prop := fnExactPlanRecordsUptoRow.holds Try.pinned (OpenSpec.upto fnExactPlanRecordsSpec)

/-- 'laws.FnExactNodeFault', WHERE WHAT IT READS IS OF BULK AT MOST 1048576: true; the input reads as it did. -/
def fnExactNodeFaultUptoRow : OpenClaim := { program := "ytjhkfjmgdkcipad", sum := "a4eba6b86227ea18664642be0ab2b133d7ccf23d290cac1478ae0c5a1a6b3dde", func := "loop.example/s01586/laws.FnExactNodeFault", spec := "fnExactNodeFault", apart := false, narrowed := true }
def FnExactNodeFaultUptoSaid : Prop := fnExactNodeFaultUptoRow.holds Try.pinned (OpenSpec.upto fnExactNodeFaultSpec)

/-- 'laws.FnExactBagWall', WHERE WHAT IT READS IS OF BULK AT MOST 1048576: true; the input reads as it did. -/
def fnExactBagWallUptoRow : OpenClaim := { program := "ytjhkfjmgdkcipad", sum := "a4eba6b86227ea18664642be0ab2b133d7ccf23d290cac1478ae0c5a1a6b3dde", func := "loop.example/s01586/laws.FnExactBagWall", spec := "fnExactBagWall", unfollowed := true, recurses := true, apart := false, narrowed := true }
def FnExactBagWallUptoSaid : Prop := fnExactBagWallUptoRow.holds Try.pinned (OpenSpec.upto fnExactBagWallSpec)

/-- 'laws.FnExactApplyLog', WHERE WHAT IT READS IS OF BULK AT MOST 1048576: true; the input reads as it did. -/
def fnExactApplyLogUptoRow : OpenClaim := { program := "ytjhkfjmgdkcipad", sum := "a4eba6b86227ea18664642be0ab2b133d7ccf23d290cac1478ae0c5a1a6b3dde", func := "loop.example/s01586/laws.FnExactApplyLog", spec := "fnExactApplyLog", unfollowed := true, recurses := true, apart := false, narrowed := true }
def FnExactApplyLogUptoSaid : Prop := fnExactApplyLogUptoRow.holds Try.pinned (OpenSpec.upto fnExactApplyLogSpec)

end Rows
end Go.Proofs.Ytjhkfjmgdkcipad
