/-
  No cell of these rows narrows 'for every input' (looked for: loops, veiled, ifaces, maps, wideKeys, modest, calm, conditions, laid).
  DERIVED. THE GIVEN ROWS OF THIS SEAT. 3 by the template 'for every input the law returns true; each argument reads behind the call as it read before'; 0 by the template 'total and deterministic' (their statements: YtnoihfincifphaaTotals.lean).
  GIVEN WITH THE SEED: the statements are not yours to turn. If you find one false, say at which input.
  Laid BY PROGRAM, IN A SANDBOX (cutbox-rows.mjs): the forced cells as the released guide's own fill.sh prints them over the translation a4a8c17f019ca277… (all of the seat's roots in one cut). By AI agents, Wed Nov 11 2026. No macro, syntax, notation, axiom, sorry.
-/
import Derived.Test.YtnoihfincifphaaChecked
import GoSem.Claim
import GoSem.ClaimJoined
import GoSem.ClaimMapViews
import Derived.JoinedTies
import Derived.KernelRfl
namespace Go.Proofs.Ytnoihfincifphaa
/- THE CELL 'sum', in the pinned program and in every row, IS THE sha256 OF THE DUMP (.gsa) THAT YtnoihfincifphaaProg.lean LOADS. Nothing in Lean hashes anything: it is a label: what it is worth is what the hold of that sum in a sandbox is worth. -/
noncomputable def Try.pinned : Pinned := { name := "ytnoihfincifphaa", sum := "a4a8c17f019ca2772e1ac96c0d1ad072009404be8c2b02599b58b265328c340b", checked := Try.checked }
namespace Rows
def none {H : Type} : Left H := { results := [], args := [] }

/-- 'laws.FnExactLinear': WHATEVER THE INPUT: true; the input reads as it did. -/
def fnExactLinearSpec : ChangeSpec := { name := "fnExactLinear", fn := fun _ => fun
  | [d1, d2] => { results := [.lit (.bool true)], args := [d1, d2] }
  | _ => none }
def fnExactLinearRow : OpenClaim := { program := "ytnoihfincifphaa", sum := "a4a8c17f019ca2772e1ac96c0d1ad072009404be8c2b02599b58b265328c340b", func := "loop.example/s01586/laws.FnExactLinear", spec := "fnExactLinear", unfollowed := true, recurses := true, plainKeys := false, apart := false }
def FnExactLinearSaid : Prop := fnExactLinearRow.holds Try.pinned (OpenSpec.ofChange fnExactLinearSpec)

/-- ITS FALSE NEIGHBOUR: 'it returns false'. Refute it at one input. -/
def fnExactLinearWrong : ChangeSpec := { name := "fnExactLinear", fn := fun _ => fun
  | [d1, d2] => { results := [.lit (.bool false)], args := [d1, d2] }
  | _ => none }
def FnExactLinearWrongFalsely : Prop := fnExactLinearRow.holds Try.pinned (OpenSpec.ofChange fnExactLinearWrong)

/-- 'laws.FnExactApplyLog': WHATEVER THE INPUT: true; the input reads as it did. -/
def fnExactApplyLogSpec : ChangeSpec := { name := "fnExactApplyLog", fn := fun _ => fun
  | [d1, d2] => { results := [.lit (.bool true)], args := [d1, d2] }
  | _ => none }
def fnExactApplyLogRow : OpenClaim := { program := "ytnoihfincifphaa", sum := "a4a8c17f019ca2772e1ac96c0d1ad072009404be8c2b02599b58b265328c340b", func := "loop.example/s01586/laws.FnExactApplyLog", spec := "fnExactApplyLog", unfollowed := true, recurses := true, plainKeys := false, apart := false }
def FnExactApplyLogSaid : Prop := fnExactApplyLogRow.holds Try.pinned (OpenSpec.ofChange fnExactApplyLogSpec)

/-- ITS FALSE NEIGHBOUR: 'it returns false'. Refute it at one input. -/
def fnExactApplyLogWrong : ChangeSpec := { name := "fnExactApplyLog", fn := fun _ => fun
  | [d1, d2] => { results := [.lit (.bool false)], args := [d1, d2] }
  | _ => none }
def FnExactApplyLogWrongFalsely : Prop := fnExactApplyLogRow.holds Try.pinned (OpenSpec.ofChange fnExactApplyLogWrong)

/-- 'laws.FnExactApplyCmd': WHATEVER THE INPUT: true; the input reads as it did. -/
def fnExactApplyCmdSpec : ChangeSpec := { name := "fnExactApplyCmd", fn := fun _ => fun
  | [d1, d2] => { results := [.lit (.bool true)], args := [d1, d2] }
  | _ => none }
def fnExactApplyCmdRow : OpenClaim := { program := "ytnoihfincifphaa", sum := "a4a8c17f019ca2772e1ac96c0d1ad072009404be8c2b02599b58b265328c340b", func := "loop.example/s01586/laws.FnExactApplyCmd", spec := "fnExactApplyCmd", unfollowed := true, recurses := true, plainKeys := false, apart := false }
def FnExactApplyCmdSaid : Prop := fnExactApplyCmdRow.holds Try.pinned (OpenSpec.ofChange fnExactApplyCmdSpec)

/-- ITS FALSE NEIGHBOUR: 'it returns false'. Refute it at one input. -/
def fnExactApplyCmdWrong : ChangeSpec := { name := "fnExactApplyCmd", fn := fun _ => fun
  | [d1, d2] => { results := [.lit (.bool false)], args := [d1, d2] }
  | _ => none }
def FnExactApplyCmdWrongFalsely : Prop := fnExactApplyCmdRow.holds Try.pinned (OpenSpec.ofChange fnExactApplyCmdWrong)

/- THE SECOND FORM. 'bulk': how many values and letters a reading holds, each counted each time it is reached (what is shared counts as often as it is met; a slice's spare places count too). A statement '..UptoSaid' is the law's where the arguments, and the package variables that the reading takes, are together of bulk at most 1048576: NARROWER than '..Said'. Prove '..Said' where nothing that the law and all that it calls make is longer than what came in: it says more and counts as full. Else prove '..UptoSaid'. A law counts once. -/
mutual
def uptoBulk {H : Type} : DataW H → Nat
  | .lit (.string bytes) => bytes.length + 1
  | .lit _ => 1
  | .nil => 1
  | .ptr d => uptoBulk d + 1
  | .slice elems spare => uptoBulkAll elems + uptoBulkAll spare + 1
  | .agg parts => uptoBulkAll parts + 1
  | .iface _ d => uptoBulk d + 1
  | .map entries => uptoBulkEntries entries + 1
  | .held _ => 1
def uptoBulkAll {H : Type} : List (DataW H) → Nat
  | [] => 0
  | d :: r => uptoBulk d + uptoBulkAll r
def uptoBulkEntries {H : Type} : List (Lit × DataW H) → Nat
  | [] => 0
  | x :: r => uptoBulkEntry x + uptoBulkEntries r
def uptoBulkEntry {H : Type} : Lit × DataW H → Nat
  | (.string bytes, d) => bytes.length + uptoBulk d + 1
  | (_, d) => uptoBulk d + 1
 end
def uptoSmall : (H : Type) → List (DataW H) → Bool := fun _ ds => decide (uptoBulkAll ds ≤ 1048576)
def OpenSpec.upto (s : _root_.Go.ChangeSpec) : _root_.Go.OpenSpec := { _root_.Go.OpenSpec.ofChange s with cond := some uptoSmall }

/-- 'laws.FnExactLinear', WHERE WHAT IT READS IS OF BULK AT MOST 1048576: true; the input reads as it did. -/
def fnExactLinearUptoRow : OpenClaim := { program := "ytnoihfincifphaa", sum := "a4a8c17f019ca2772e1ac96c0d1ad072009404be8c2b02599b58b265328c340b", func := "loop.example/s01586/laws.FnExactLinear", spec := "fnExactLinear", unfollowed := true, recurses := true, plainKeys := false, apart := false, narrowed := true }
def FnExactLinearUptoSaid : Prop := fnExactLinearUptoRow.holds Try.pinned (OpenSpec.upto fnExactLinearSpec)

/-- 'laws.FnExactApplyLog', WHERE WHAT IT READS IS OF BULK AT MOST 1048576: true; the input reads as it did. -/
def fnExactApplyLogUptoRow : OpenClaim := { program := "ytnoihfincifphaa", sum := "a4a8c17f019ca2772e1ac96c0d1ad072009404be8c2b02599b58b265328c340b", func := "loop.example/s01586/laws.FnExactApplyLog", spec := "fnExactApplyLog", unfollowed := true, recurses := true, plainKeys := false, apart := false, narrowed := true }
def FnExactApplyLogUptoSaid : Prop := fnExactApplyLogUptoRow.holds Try.pinned (OpenSpec.upto fnExactApplyLogSpec)

/-- 'laws.FnExactApplyCmd', WHERE WHAT IT READS IS OF BULK AT MOST 1048576: true; the input reads as it did. -/
def fnExactApplyCmdUptoRow : OpenClaim := { program := "ytnoihfincifphaa", sum := "a4a8c17f019ca2772e1ac96c0d1ad072009404be8c2b02599b58b265328c340b", func := "loop.example/s01586/laws.FnExactApplyCmd", spec := "fnExactApplyCmd", unfollowed := true, recurses := true, plainKeys := false, apart := false, narrowed := true }
def FnExactApplyCmdUptoSaid : Prop := fnExactApplyCmdUptoRow.holds Try.pinned (OpenSpec.upto fnExactApplyCmdSpec)

end Rows
end Go.Proofs.Ytnoihfincifphaa
