/-
  No cell of these rows narrows 'for every input' (looked for: loops, veiled, ifaces, maps, wideKeys, modest, calm, conditions, laid).
  DERIVED. THE GIVEN ROWS OF THIS SEAT. 5 by the template 'for every input the law returns true; each argument reads behind the call as it read before'; 0 by the template 'total and deterministic' (their statements: YtdobgdbceonjkabTotals.lean).
  GIVEN WITH THE SEED: the statements are not yours to turn. If you find one false, say at which input.
  Laid BY PROGRAM, IN A SANDBOX (cutbox-rows.mjs): the forced cells as the released guide's own fill.sh prints them over the translation 5e640de609b996da… (all of the seat's roots in one cut). By AI agents, Wed Nov 11 2026. No macro, syntax, notation, axiom, sorry.
-/
import Derived.Test.YtdobgdbceonjkabChecked
import GoSem.Claim
import GoSem.ClaimJoined
import GoSem.ClaimMapViews
import Derived.JoinedTies
import Derived.KernelRfl
namespace Go.Proofs.Ytdobgdbceonjkab
/- THE CELL 'sum', in the pinned program and in every row, IS THE sha256 OF THE DUMP (.gsa) THAT YtdobgdbceonjkabProg.lean LOADS. Nothing in Lean hashes anything: it is a label: what it is worth is what the hold of that sum in a sandbox is worth. -/
noncomputable def Try.pinned : Pinned := { name := "ytdobgdbceonjkab", sum := "5e640de609b996da3ae319dcc1eb83387d10c263e9ff2a06e6e6e4c4f2e5c031", checked := Try.checked }
namespace Rows
def none {H : Type} : Left H := { results := [], args := [] }

/-- 'laws.FnExactSpoil': WHATEVER THE INPUT: true; the input reads as it did. -/
def fnExactSpoilSpec : ChangeSpec := { name := "fnExactSpoil", fn := fun _ => fun
  | [d1, d2, d3] => { results := [.lit (.bool true)], args := [d1, d2, d3] }
  | _ => none }
def fnExactSpoilRow : OpenClaim := { program := "ytdobgdbceonjkab", sum := "5e640de609b996da3ae319dcc1eb83387d10c263e9ff2a06e6e6e4c4f2e5c031", func := "loop.example/s01586/laws.FnExactSpoil", spec := "fnExactSpoil", apart := false }
def FnExactSpoilSaid : Prop := fnExactSpoilRow.holds Try.pinned (OpenSpec.ofChange fnExactSpoilSpec)

/-- ITS FALSE NEIGHBOUR: 'it returns false'. Refute it at one input. -/
def fnExactSpoilWrong : ChangeSpec := { name := "fnExactSpoil", fn := fun _ => fun
  | [d1, d2, d3] => { results := [.lit (.bool false)], args := [d1, d2, d3] }
  | _ => none }
def FnExactSpoilWrongFalsely : Prop := fnExactSpoilRow.holds Try.pinned (OpenSpec.ofChange fnExactSpoilWrong)

/-- 'laws.FnExactWindowBound': WHATEVER THE INPUT: true; the input reads as it did. -/
def fnExactWindowBoundSpec : ChangeSpec := { name := "fnExactWindowBound", fn := fun _ => fun
  | [d1, d2, d3] => { results := [.lit (.bool true)], args := [d1, d2, d3] }
  | _ => none }
def fnExactWindowBoundRow : OpenClaim := { program := "ytdobgdbceonjkab", sum := "5e640de609b996da3ae319dcc1eb83387d10c263e9ff2a06e6e6e4c4f2e5c031", func := "loop.example/s01586/laws.FnExactWindowBound", spec := "fnExactWindowBound", apart := false }
def FnExactWindowBoundSaid : Prop := fnExactWindowBoundRow.holds Try.pinned (OpenSpec.ofChange fnExactWindowBoundSpec)

/-- ITS FALSE NEIGHBOUR: 'it returns false'. Refute it at one input. -/
def fnExactWindowBoundWrong : ChangeSpec := { name := "fnExactWindowBound", fn := fun _ => fun
  | [d1, d2, d3] => { results := [.lit (.bool false)], args := [d1, d2, d3] }
  | _ => none }
def FnExactWindowBoundWrongFalsely : Prop := fnExactWindowBoundRow.holds Try.pinned (OpenSpec.ofChange fnExactWindowBoundWrong)

/-- 'laws.FnSlots': WHATEVER THE INPUT: true; the input reads as it did. -/
def fnSlotsSpec : ChangeSpec := { name := "fnSlots", fn := fun _ => fun
  | [d1, d2] => { results := [.lit (.bool true)], args := [d1, d2] }
  | _ => none }
def fnSlotsRow : OpenClaim := { program := "ytdobgdbceonjkab", sum := "5e640de609b996da3ae319dcc1eb83387d10c263e9ff2a06e6e6e4c4f2e5c031", func := "loop.example/s01586/laws.FnSlots", spec := "fnSlots", apart := false }
def FnSlotsSaid : Prop := fnSlotsRow.holds Try.pinned (OpenSpec.ofChange fnSlotsSpec)

/-- ITS FALSE NEIGHBOUR: 'it returns false'. Refute it at one input. -/
def fnSlotsWrong : ChangeSpec := { name := "fnSlots", fn := fun _ => fun
  | [d1, d2] => { results := [.lit (.bool false)], args := [d1, d2] }
  | _ => none }
def FnSlotsWrongFalsely : Prop := fnSlotsRow.holds Try.pinned (OpenSpec.ofChange fnSlotsWrong)

/-- 'laws.FnExactDiskSync': WHATEVER THE INPUT: true; the input reads as it did. -/
def fnExactDiskSyncSpec : ChangeSpec := { name := "fnExactDiskSync", fn := fun _ => fun
  | [d] => { results := [.lit (.bool true)], args := [d] }
  | _ => none }
def fnExactDiskSyncRow : OpenClaim := { program := "ytdobgdbceonjkab", sum := "5e640de609b996da3ae319dcc1eb83387d10c263e9ff2a06e6e6e4c4f2e5c031", func := "loop.example/s01586/laws.FnExactDiskSync", spec := "fnExactDiskSync", apart := false }
def FnExactDiskSyncSaid : Prop := fnExactDiskSyncRow.holds Try.pinned (OpenSpec.ofChange fnExactDiskSyncSpec)

/-- ITS FALSE NEIGHBOUR: 'it returns false'. Refute it at one input. -/
def fnExactDiskSyncWrong : ChangeSpec := { name := "fnExactDiskSync", fn := fun _ => fun
  | [d] => { results := [.lit (.bool false)], args := [d] }
  | _ => none }
def FnExactDiskSyncWrongFalsely : Prop := fnExactDiskSyncRow.holds Try.pinned (OpenSpec.ofChange fnExactDiskSyncWrong)

/-- 'laws.FnExactEncodeCall': WHATEVER THE INPUT: true; the input reads as it did. -/
def fnExactEncodeCallSpec : ChangeSpec := { name := "fnExactEncodeCall", fn := fun _ => fun
  | [d] => { results := [.lit (.bool true)], args := [d] }
  | _ => none }
def fnExactEncodeCallRow : OpenClaim := { program := "ytdobgdbceonjkab", sum := "5e640de609b996da3ae319dcc1eb83387d10c263e9ff2a06e6e6e4c4f2e5c031", func := "loop.example/s01586/laws.FnExactEncodeCall", spec := "fnExactEncodeCall", unfollowed := true, recurses := true, apart := false }
def FnExactEncodeCallSaid : Prop := fnExactEncodeCallRow.holds Try.pinned (OpenSpec.ofChange fnExactEncodeCallSpec)

/-- ITS FALSE NEIGHBOUR: 'it returns false'. Refute it at one input. -/
def fnExactEncodeCallWrong : ChangeSpec := { name := "fnExactEncodeCall", fn := fun _ => fun
  | [d] => { results := [.lit (.bool false)], args := [d] }
  | _ => none }
def FnExactEncodeCallWrongFalsely : Prop := fnExactEncodeCallRow.holds Try.pinned (OpenSpec.ofChange fnExactEncodeCallWrong)

/- THE SECOND FORM. 'bulk': how many values and letters a reading holds, each counted each time it is reached (what is shared counts as often as it is met; a slice's spare places count too). A statement '..UptoSaid' is the law's where the arguments, and the package variables that the reading takes, are together of bulk at most 1048576: NARROWER than '..Said'. Prove '..Said' where nothing that the law and all that it calls make is longer than what came in: it says more and counts as full. Else prove '..UptoSaid'. A law counts once. -/
mutual
def uptoBulk {H : Type} : DataW H → Nat
  | .lit (.string bytes) => bytes.length + 1
  | .lit _ => 1
  | .nil => 1
  | .ptr d => uptoBulk d + 1
  | .slice elems spare => uptoBulkAll elems + uptoBulkAll spare + 1
  | .agg parts => uptoBulkAll parts + 1
  | .iface _ d => uptoBulk d + 1
  | .map entries => uptoBulkEntries entries + 1
  | .held _ => 1
def uptoBulkAll {H : Type} : List (DataW H) → Nat
  | [] => 0
  | d :: r => uptoBulk d + uptoBulkAll r
def uptoBulkEntries {H : Type} : List (Lit × DataW H) → Nat
  | [] => 0
  | x :: r => uptoBulkEntry x + uptoBulkEntries r
def uptoBulkEntry {H : Type} : Lit × DataW H → Nat
  | (.string bytes, d) => bytes.length + uptoBulk d + 1
  | (_, d) => uptoBulk d + 1
 end
def uptoSmall : (H : Type) → List (DataW H) → Bool := fun _ ds => decide (uptoBulkAll ds ≤ 1048576)
def OpenSpec.upto (s : _root_.Go.ChangeSpec) : _root_.Go.OpenSpec := { _root_.Go.OpenSpec.ofChange s with cond := some uptoSmall }

/-- 'laws.FnExactSpoil', WHERE WHAT IT READS IS OF BULK AT MOST 1048576: true; the input reads as it did. -/
def fnExactSpoilUptoRow : OpenClaim := { program := "ytdobgdbceonjkab", sum := "5e640de609b996da3ae319dcc1eb83387d10c263e9ff2a06e6e6e4c4f2e5c031", func := "loop.example/s01586/laws.FnExactSpoil", spec := "fnExactSpoil", apart := false, narrowed := true }
def FnExactSpoilUptoSaid : Prop := fnExactSpoilUptoRow.holds Try.pinned (OpenSpec.upto fnExactSpoilSpec)

/-- 'laws.FnExactWindowBound', WHERE WHAT IT READS IS OF BULK AT MOST 1048576: true; the input reads as it did. -/
def fnExactWindowBoundUptoRow : OpenClaim := { program := "ytdobgdbceonjkab", sum := "5e640de609b996da3ae319dcc1eb83387d10c263e9ff2a06e6e6e4c4f2e5c031", func := "loop.example/s01586/laws.FnExactWindowBound", spec := "fnExactWindowBound", apart := false, narrowed := true }
def FnExactWindowBoundUptoSaid : Prop := fnExactWindowBoundUptoRow.holds Try.pinned (OpenSpec.upto fnExactWindowBoundSpec)

/-- 'laws.FnSlots', WHERE WHAT IT READS IS OF BULK AT MOST 1048576: true; the input reads as it did. -/
def fnSlotsUptoRow : OpenClaim := { program := "ytdobgdbceonjkab", sum := "5e640de609b996da3ae319dcc1eb83387d10c263e9ff2a06e6e6e4c4f2e5c031", func := "loop.example/s01586/laws.FnSlots", spec := "fnSlots", apart := false, narrowed := true }
def FnSlotsUptoSaid : Prop := fnSlotsUptoRow.holds Try.pinned (OpenSpec.upto fnSlotsSpec)

/-- 'laws.FnExactDiskSync', WHERE WHAT IT READS IS OF BULK AT MOST 1048576: true; the input reads as it did. -/
def fnExactDiskSyncUptoRow : OpenClaim := { program := "ytdobgdbceonjkab", sum := "5e640de609b996da3ae319dcc1eb83387d10c263e9ff2a06e6e6e4c4f2e5c031", func := "loop.example/s01586/laws.FnExactDiskSync", spec := "fnExactDiskSync", apart := false, narrowed := true }
def FnExactDiskSyncUptoSaid : Prop := fnExactDiskSyncUptoRow.holds Try.pinned (OpenSpec.upto fnExactDiskSyncSpec)

/-- 'laws.FnExactEncodeCall', WHERE WHAT IT READS IS OF BULK AT MOST 1048576: true; the input reads as it did. -/
def fnExactEncodeCallUptoRow : OpenClaim := { program := "ytdobgdbceonjkab", sum := "5e640de609b996da3ae319dcc1eb83387d10c263e9ff2a06e6e6e4c4f2e5c031", func := "loop.example/s01586/laws.FnExactEncodeCall", spec := "fnExactEncodeCall", unfollowed := true, recurses := true, apart := false, narrowed := true }
def FnExactEncodeCallUptoSaid : Prop := fnExactEncodeCallUptoRow.holds Try.pinned (OpenSpec.upto fnExactEncodeCallSpec)

end Rows
end Go.Proofs.Ytdobgdbceonjkab
