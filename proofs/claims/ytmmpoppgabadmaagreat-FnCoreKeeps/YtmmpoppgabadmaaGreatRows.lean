/-
  No cell of these rows narrows 'for every input' (looked for: loops, veiled, ifaces, maps, wideKeys, modest, calm, conditions, laid).
  DERIVED. THE GIVEN ROWS OF THIS SEAT. 4 by the template 'for every input the law returns true; each argument reads behind the call as it read before'; 0 by the template 'total and deterministic' (their statements: YtmmpoppgabadmaaGreatTotals.lean).
  GIVEN WITH THE SEED: the statements are not yours to turn. If you find one false, say at which input.
  Laid BY PROGRAM, IN A SANDBOX (cutbox-rows.mjs): the forced cells as the released guide's own fill.sh prints them over the translation 33c917540d087db7… (all of the seat's roots in one cut). By AI agents, Wed Nov 11 2026. No macro, syntax, notation, axiom, sorry.
-/
import Derived.Test.YtmmpoppgabadmaaGreatChecked
import GoSem.Claim
import GoSem.ClaimJoined
import GoSem.ClaimMapViews
import Derived.JoinedTies
import Derived.KernelRfl
namespace Go.Proofs.YtmmpoppgabadmaaGreat
/- THE CELL 'sum', in the pinned program and in every row, IS THE sha256 OF THE DUMP (.gsa) THAT YtmmpoppgabadmaaGreatProg.lean LOADS. Nothing in Lean hashes anything: it is a label: what it is worth is what the hold of that sum in a sandbox is worth. -/
noncomputable def Tryz.pinned : Pinned := { name := "ytmmpoppgabadmaagreat", sum := "33c917540d087db72500886750402a5297099db77e4a8b5c6b0d29337dcb9784", checked := Tryz.checked }
namespace Rows
def none {H : Type} : Left H := { results := [], args := [] }

/-- 'laws.FnExactStepNode': WHATEVER THE INPUT: true; the input reads as it did. -/
def fnExactStepNodeSpec : ChangeSpec := { name := "fnExactStepNode", fn := fun _ => fun
  | [d1, d2] => { results := [.lit (.bool true)], args := [d1, d2] }
  | _ => none }
def fnExactStepNodeRow : OpenClaim := { program := "ytmmpoppgabadmaagreat", sum := "33c917540d087db72500886750402a5297099db77e4a8b5c6b0d29337dcb9784", func := "loop.example/s01586/laws.FnExactStepNode", spec := "fnExactStepNode", unfollowed := true, recurses := true, apart := false }
def FnExactStepNodeSaid : Prop := fnExactStepNodeRow.holds Tryz.pinned (OpenSpec.ofChange fnExactStepNodeSpec)

/-- ITS FALSE NEIGHBOUR: 'it returns false'. Refute it at one input. -/
def fnExactStepNodeWrong : ChangeSpec := { name := "fnExactStepNode", fn := fun _ => fun
  | [d1, d2] => { results := [.lit (.bool false)], args := [d1, d2] }
  | _ => none }
def FnExactStepNodeWrongFalsely : Prop := fnExactStepNodeRow.holds Tryz.pinned (OpenSpec.ofChange fnExactStepNodeWrong)

/-- 'laws.FnLoyal': WHATEVER THE INPUT: true; the input reads as it did. -/
def fnLoyalSpec : ChangeSpec := { name := "fnLoyal", fn := fun _ => fun
  | [d] => { results := [.lit (.bool true)], args := [d] }
  | _ => none }
def fnLoyalRow : OpenClaim := { program := "ytmmpoppgabadmaagreat", sum := "33c917540d087db72500886750402a5297099db77e4a8b5c6b0d29337dcb9784", func := "loop.example/s01586/laws.FnLoyal", spec := "fnLoyal", unfollowed := true, recurses := true, apart := false }
def FnLoyalSaid : Prop := fnLoyalRow.holds Tryz.pinned (OpenSpec.ofChange fnLoyalSpec)

/-- ITS FALSE NEIGHBOUR: 'it returns false'. Refute it at one input. -/
def fnLoyalWrong : ChangeSpec := { name := "fnLoyal", fn := fun _ => fun
  | [d] => { results := [.lit (.bool false)], args := [d] }
  | _ => none }
def FnLoyalWrongFalsely : Prop := fnLoyalRow.holds Tryz.pinned (OpenSpec.ofChange fnLoyalWrong)

/-- 'laws.FnBeats': WHATEVER THE INPUT: true; the input reads as it did. -/
def fnBeatsSpec : ChangeSpec := { name := "fnBeats", fn := fun _ => fun
  | [d] => { results := [.lit (.bool true)], args := [d] }
  | _ => none }
def fnBeatsRow : OpenClaim := { program := "ytmmpoppgabadmaagreat", sum := "33c917540d087db72500886750402a5297099db77e4a8b5c6b0d29337dcb9784", func := "loop.example/s01586/laws.FnBeats", spec := "fnBeats", unfollowed := true, recurses := true, apart := false }
def FnBeatsSaid : Prop := fnBeatsRow.holds Tryz.pinned (OpenSpec.ofChange fnBeatsSpec)

/-- ITS FALSE NEIGHBOUR: 'it returns false'. Refute it at one input. -/
def fnBeatsWrong : ChangeSpec := { name := "fnBeats", fn := fun _ => fun
  | [d] => { results := [.lit (.bool false)], args := [d] }
  | _ => none }
def FnBeatsWrongFalsely : Prop := fnBeatsRow.holds Tryz.pinned (OpenSpec.ofChange fnBeatsWrong)

/-- 'laws.FnCoreKeeps': WHATEVER THE INPUT: true; the input reads as it did. -/
def fnCoreKeepsSpec : ChangeSpec := { name := "fnCoreKeeps", fn := fun _ => fun
  | [d] => { results := [.lit (.bool true)], args := [d] }
  | _ => none }
def fnCoreKeepsRow : OpenClaim := { program := "ytmmpoppgabadmaagreat", sum := "33c917540d087db72500886750402a5297099db77e4a8b5c6b0d29337dcb9784", func := "loop.example/s01586/laws.FnCoreKeeps", spec := "fnCoreKeeps", unfollowed := true, recurses := true, apart := false }
def FnCoreKeepsSaid : Prop := fnCoreKeepsRow.holds Tryz.pinned (OpenSpec.ofChange fnCoreKeepsSpec)

/-- ITS FALSE NEIGHBOUR: 'it returns false'. Refute it at one input. -/
def fnCoreKeepsWrong : ChangeSpec := { name := "fnCoreKeeps", fn := fun _ => fun
  | [d] => { results := [.lit (.bool false)], args := [d] }
  | _ => none }
def FnCoreKeepsWrongFalsely : Prop := fnCoreKeepsRow.holds Tryz.pinned (OpenSpec.ofChange fnCoreKeepsWrong)

/- THE SECOND FORM. 'bulk': how many values and letters a reading holds, each counted each time it is reached (what is shared counts as often as it is met; a slice's spare places count too). A statement '..UptoSaid' is the law's where the arguments, and the package variables that the reading takes, are together of bulk at most 1048576: NARROWER than '..Said'. Prove '..Said' where nothing that the law and all that it calls make is longer than what came in: it says more and counts as full. Else prove '..UptoSaid'. A law counts once. -/
mutual
def uptoBulk {H : Type} : DataW H → Nat
  | .lit (.string bytes) => bytes.length + 1
  | .lit _ => 1
  | .nil => 1
  | .ptr d => uptoBulk d + 1
  | .slice elems spare => uptoBulkAll elems + uptoBulkAll spare + 1
  | .agg parts => uptoBulkAll parts + 1
  | .iface _ d => uptoBulk d + 1
  | .map entries => uptoBulkEntries entries + 1
  | .held _ => 1
def uptoBulkAll {H : Type} : List (DataW H) → Nat
  | [] => 0
  | d :: r => uptoBulk d + uptoBulkAll r
def uptoBulkEntries {H : Type} : List (Lit × DataW H) → Nat
  | [] => 0
  | x :: r => uptoBulkEntry x + uptoBulkEntries r
def uptoBulkEntry {H : Type} : Lit × DataW H → Nat
  | (.string bytes, d) => bytes.length + uptoBulk d + 1
  | (_, d) => uptoBulk d + 1
 end
def uptoSmall : (H : Type) → List (DataW H) → Bool := fun _ ds => decide (uptoBulkAll ds ≤ 1048576)
def OpenSpec.upto (s : _root_.Go.ChangeSpec) : _root_.Go.OpenSpec := { _root_.Go.OpenSpec.ofChange s with cond := some uptoSmall }

/-- 'laws.FnExactStepNode', WHERE WHAT IT READS IS OF BULK AT MOST 1048576: true; the input reads as it did. -/
def fnExactStepNodeUptoRow : OpenClaim := { program := "ytmmpoppgabadmaagreat", sum := "33c917540d087db72500886750402a5297099db77e4a8b5c6b0d29337dcb9784", func := "loop.example/s01586/laws.FnExactStepNode", spec := "fnExactStepNode", unfollowed := true, recurses := true, apart := false, narrowed := true }
def FnExactStepNodeUptoSaid : Prop := fnExactStepNodeUptoRow.holds Tryz.pinned (OpenSpec.upto fnExactStepNodeSpec)

/-- 'laws.FnLoyal', WHERE WHAT IT READS IS OF BULK AT MOST 1048576: true; the input reads as it did. -/
def fnLoyalUptoRow : OpenClaim := { program := "ytmmpoppgabadmaagreat", sum := "33c917540d087db72500886750402a5297099db77e4a8b5c6b0d29337dcb9784", func := "loop.example/s01586/laws.FnLoyal", spec := "fnLoyal", unfollowed := true, recurses := true, apart := false, narrowed := true }
def FnLoyalUptoSaid : Prop := fnLoyalUptoRow.holds Tryz.pinned (OpenSpec.upto fnLoyalSpec)

/-- 'laws.FnBeats', WHERE WHAT IT READS IS OF BULK AT MOST 1048576: true; the input reads as it did. -/
def fnBeatsUptoRow : OpenClaim := { program := "ytmmpoppgabadmaagreat", sum := "33c917540d087db72500886750402a5297099db77e4a8b5c6b0d29337dcb9784", func := "loop.example/s01586/laws.FnBeats", spec := "fnBeats", unfollowed := true, recurses := true, apart := false, narrowed := true }
def FnBeatsUptoSaid : Prop := fnBeatsUptoRow.holds Tryz.pinned (OpenSpec.upto fnBeatsSpec)

/-- 'laws.FnCoreKeeps', WHERE WHAT IT READS IS OF BULK AT MOST 1048576: true; the input reads as it did. -/
def fnCoreKeepsUptoRow : OpenClaim := { program := "ytmmpoppgabadmaagreat", sum := "33c917540d087db72500886750402a5297099db77e4a8b5c6b0d29337dcb9784", func := "loop.example/s01586/laws.FnCoreKeeps", spec := "fnCoreKeeps", unfollowed := true, recurses := true, apart := false, narrowed := true }
def FnCoreKeepsUptoSaid : Prop := fnCoreKeepsUptoRow.holds Tryz.pinned (OpenSpec.upto fnCoreKeepsSpec)

end Rows
end Go.Proofs.YtmmpoppgabadmaaGreat
