/-
  No cell of these rows narrows 'for every input' (looked for: loops, veiled, ifaces, maps, wideKeys, modest, calm, conditions, laid).
  DERIVED. THE GIVEN ROWS OF THIS SEAT. 6 by the template 'for every input the law returns true; each argument reads behind the call as it read before'; 0 by the template 'total and deterministic' (their statements: YtjhkfjmgdkcipaaTotals.lean).
  GIVEN WITH THE SEED: the statements are not yours to turn. If you find one false, say at which input.
  Laid BY PROGRAM, IN A SANDBOX (cutbox-rows.mjs): the forced cells as the released guide's own fill.sh prints them over the translation a06a600db9066126… (all of the seat's roots in one cut). By AI agents, Wed Nov 11 2026. No macro, syntax, notation, axiom, sorry.
-/
import Derived.Test.YtjhkfjmgdkcipaaChecked
import GoSem.Claim
import GoSem.ClaimJoined
import GoSem.ClaimMapViews
import Derived.JoinedTies
import Derived.KernelRfl
namespace Go.Proofs.Ytjhkfjmgdkcipaa
/- THE CELL 'sum', in the pinned program and in every row, IS THE sha256 OF THE DUMP (.gsa) THAT YtjhkfjmgdkcipaaProg.lean LOADS. Nothing in Lean hashes anything: it is a label: what it is worth is what the hold of that sum in a sandbox is worth. -/
noncomputable def Try.pinned : Pinned := { name := "ytjhkfjmgdkcipaa", sum := "a06a600db9066126e047d2e647cb1e8a2b8cf3c089a6e3aa224ebb6a5ad52149", checked := Try.checked }
namespace Rows
def none {H : Type} : Left H := { results := [], args := [] }

/-- 'laws.FnExactCrc32': WHATEVER THE INPUT: true; the input reads as it did. -/
def fnExactCrc32Spec : ChangeSpec := { name := "fnExactCrc32", fn := fun _ => fun
  | [d] => { results := [.lit (.bool true)], args := [d] }
  | _ => none }
def fnExactCrc32Row : OpenClaim := { program := "ytjhkfjmgdkcipaa", sum := "a06a600db9066126e047d2e647cb1e8a2b8cf3c089a6e3aa224ebb6a5ad52149", func := "loop.example/s01586/laws.FnExactCrc32", spec := "fnExactCrc32", apart := false }
def FnExactCrc32Said : Prop := fnExactCrc32Row.holds Try.pinned (OpenSpec.ofChange fnExactCrc32Spec)

/-- ITS FALSE NEIGHBOUR: 'it returns false'. Refute it at one input. -/
def fnExactCrc32Wrong : ChangeSpec := { name := "fnExactCrc32", fn := fun _ => fun
  | [d] => { results := [.lit (.bool false)], args := [d] }
  | _ => none }
def FnExactCrc32WrongFalsely : Prop := fnExactCrc32Row.holds Try.pinned (OpenSpec.ofChange fnExactCrc32Wrong)

/-- 'laws.FnExactCmdFault': WHATEVER THE INPUT: true; the input reads as it did. -/
def fnExactCmdFaultSpec : ChangeSpec := { name := "fnExactCmdFault", fn := fun _ => fun
  | [d] => { results := [.lit (.bool true)], args := [d] }
  | _ => none }
def fnExactCmdFaultRow : OpenClaim := { program := "ytjhkfjmgdkcipaa", sum := "a06a600db9066126e047d2e647cb1e8a2b8cf3c089a6e3aa224ebb6a5ad52149", func := "loop.example/s01586/laws.FnExactCmdFault", spec := "fnExactCmdFault", apart := false }
def FnExactCmdFaultSaid : Prop := fnExactCmdFaultRow.holds Try.pinned (OpenSpec.ofChange fnExactCmdFaultSpec)

/-- ITS FALSE NEIGHBOUR: 'it returns false'. Refute it at one input. -/
def fnExactCmdFaultWrong : ChangeSpec := { name := "fnExactCmdFault", fn := fun _ => fun
  | [d] => { results := [.lit (.bool false)], args := [d] }
  | _ => none }
def FnExactCmdFaultWrongFalsely : Prop := fnExactCmdFaultRow.holds Try.pinned (OpenSpec.ofChange fnExactCmdFaultWrong)

/-- 'laws.FnExactTimeoutOf': WHATEVER THE INPUT: true; the input reads as it did. -/
def fnExactTimeoutOfSpec : ChangeSpec := { name := "fnExactTimeoutOf", fn := fun _ => fun
  | [d1, d2] => { results := [.lit (.bool true)], args := [d1, d2] }
  | _ => none }
def fnExactTimeoutOfRow : OpenClaim := { program := "ytjhkfjmgdkcipaa", sum := "a06a600db9066126e047d2e647cb1e8a2b8cf3c089a6e3aa224ebb6a5ad52149", func := "loop.example/s01586/laws.FnExactTimeoutOf", spec := "fnExactTimeoutOf", apart := false }
def FnExactTimeoutOfSaid : Prop := fnExactTimeoutOfRow.holds Try.pinned (OpenSpec.ofChange fnExactTimeoutOfSpec)

/-- ITS FALSE NEIGHBOUR: 'it returns false'. Refute it at one input. -/
def fnExactTimeoutOfWrong : ChangeSpec := { name := "fnExactTimeoutOf", fn := fun _ => fun
  | [d1, d2] => { results := [.lit (.bool false)], args := [d1, d2] }
  | _ => none }
def FnExactTimeoutOfWrongFalsely : Prop := fnExactTimeoutOfRow.holds Try.pinned (OpenSpec.ofChange fnExactTimeoutOfWrong)

/-- 'laws.FnExactFeedRun': WHATEVER THE INPUT: true; the input reads as it did. -/
def fnExactFeedRunSpec : ChangeSpec := { name := "fnExactFeedRun", fn := fun _ => fun
  | [d1, d2] => { results := [.lit (.bool true)], args := [d1, d2] }
  | _ => none }
def fnExactFeedRunRow : OpenClaim := { program := "ytjhkfjmgdkcipaa", sum := "a06a600db9066126e047d2e647cb1e8a2b8cf3c089a6e3aa224ebb6a5ad52149", func := "loop.example/s01586/laws.FnExactFeedRun", spec := "fnExactFeedRun", inPlace := ["(*sync.WaitGroup).Add", "internal/race.ReleaseMerge", "internal/race.Disable", "internal/race.Enable", "internal/synctest.IsInBubble", "internal/synctest.Associate[sync.WaitGroup]", "sync.fatal", "sync/atomic.OrUint64", "sync/atomic.AddUint64", "internal/race.Read", "sync/atomic.LoadUint64", "sync/atomic.StoreUint64", "internal/synctest.Disassociate[sync.WaitGroup]", "sync.runtime_Semrelease", "(*sync.WaitGroup).Done", "(*sync.WaitGroup).Wait", "internal/race.Acquire", "internal/synctest.IsAssociated[sync.WaitGroup]", "sync/atomic.CompareAndSwapUint64", "internal/race.Write", "sync.runtime_SemacquireWaitGroup"], apart := false }
def FnExactFeedRunSaid : Prop := fnExactFeedRunRow.holds Try.pinned (OpenSpec.ofChange fnExactFeedRunSpec)

/-- ITS FALSE NEIGHBOUR: 'it returns false'. Refute it at one input. -/
def fnExactFeedRunWrong : ChangeSpec := { name := "fnExactFeedRun", fn := fun _ => fun
  | [d1, d2] => { results := [.lit (.bool false)], args := [d1, d2] }
  | _ => none }
def FnExactFeedRunWrongFalsely : Prop := fnExactFeedRunRow.holds Try.pinned (OpenSpec.ofChange fnExactFeedRunWrong)

/-- 'laws.FnExactSetupFault': WHATEVER THE INPUT: true; the input reads as it did. -/
def fnExactSetupFaultSpec : ChangeSpec := { name := "fnExactSetupFault", fn := fun _ => fun
  | [d] => { results := [.lit (.bool true)], args := [d] }
  | _ => none }
def fnExactSetupFaultRow : OpenClaim := { program := "ytjhkfjmgdkcipaa", sum := "a06a600db9066126e047d2e647cb1e8a2b8cf3c089a6e3aa224ebb6a5ad52149", func := "loop.example/s01586/laws.FnExactSetupFault", spec := "fnExactSetupFault", apart := false }
def FnExactSetupFaultSaid : Prop := fnExactSetupFaultRow.holds Try.pinned (OpenSpec.ofChange fnExactSetupFaultSpec)

/-- ITS FALSE NEIGHBOUR: 'it returns false'. Refute it at one input. -/
def fnExactSetupFaultWrong : ChangeSpec := { name := "fnExactSetupFault", fn := fun _ => fun
  | [d] => { results := [.lit (.bool false)], args := [d] }
  | _ => none }
def FnExactSetupFaultWrongFalsely : Prop := fnExactSetupFaultRow.holds Try.pinned (OpenSpec.ofChange fnExactSetupFaultWrong)

/-- 'laws.FnExactSlotDraw': WHATEVER THE INPUT: true; the input reads as it did. -/
def fnExactSlotDrawSpec : ChangeSpec := { name := "fnExactSlotDraw", fn := fun _ => fun
  | [d1, d2, d3, d4] => { results := [.lit (.bool true)], args := [d1, d2, d3, d4] }
  | _ => none }
def fnExactSlotDrawRow : OpenClaim := { program := "ytjhkfjmgdkcipaa", sum := "a06a600db9066126e047d2e647cb1e8a2b8cf3c089a6e3aa224ebb6a5ad52149", func := "loop.example/s01586/laws.FnExactSlotDraw", spec := "fnExactSlotDraw", apart := false }
def FnExactSlotDrawSaid : Prop := fnExactSlotDrawRow.holds Try.pinned (OpenSpec.ofChange fnExactSlotDrawSpec)

/-- ITS FALSE NEIGHBOUR: 'it returns false'. Refute it at one input. -/
def fnExactSlotDrawWrong : ChangeSpec := { name := "fnExactSlotDraw", fn := fun _ => fun
  | [d1, d2, d3, d4] => { results := [.lit (.bool false)], args := [d1, d2, d3, d4] }
  | _ => none }
def FnExactSlotDrawWrongFalsely : Prop := fnExactSlotDrawRow.holds Try.pinned (OpenSpec.ofChange fnExactSlotDrawWrong)

/- THE SECOND FORM. 'bulk': how many values and letters a reading holds, each counted each time it is reached (what is shared counts as often as it is met; a slice's spare places count too). A statement '..UptoSaid' is the law's where the arguments, and the package variables that the reading takes, are together of bulk at most 1048576: NARROWER than '..Said'. Prove '..Said' where nothing that the law and all that it calls make is longer than what came in: it says more and counts as full. Else prove '..UptoSaid'. A law counts once. -/
mutual
def uptoBulk {H : Type} : DataW H → Nat
  | .lit (.string bytes) => bytes.length + 1
  | .lit _ => 1
  | .nil => 1
  | .ptr d => uptoBulk d + 1
  | .slice elems spare => uptoBulkAll elems + uptoBulkAll spare + 1
  | .agg parts => uptoBulkAll parts + 1
  | .iface _ d => uptoBulk d + 1
  | .map entries => uptoBulkEntries entries + 1
  | .held _ => 1
def uptoBulkAll {H : Type} : List (DataW H) → Nat
  | [] => 0
  | d :: r => uptoBulk d + uptoBulkAll r
def uptoBulkEntries {H : Type} : List (Lit × DataW H) → Nat
  | [] => 0
  | x :: r => uptoBulkEntry x + uptoBulkEntries r
def uptoBulkEntry {H : Type} : Lit × DataW H → Nat
  | (.string bytes, d) => bytes.length + uptoBulk d + 1
  | (_, d) => uptoBulk d + 1
 end
def uptoSmall : (H : Type) → List (DataW H) → Bool := fun _ ds => decide (uptoBulkAll ds ≤ 1048576)
def OpenSpec.upto (s : _root_.Go.ChangeSpec) : _root_.Go.OpenSpec := { _root_.Go.OpenSpec.ofChange s with cond := some uptoSmall }

/-- 'laws.FnExactCrc32', WHERE WHAT IT READS IS OF BULK AT MOST 1048576: true; the input reads as it did. -/
def fnExactCrc32UptoRow : OpenClaim := { program := "ytjhkfjmgdkcipaa", sum := "a06a600db9066126e047d2e647cb1e8a2b8cf3c089a6e3aa224ebb6a5ad52149", func := "loop.example/s01586/laws.FnExactCrc32", spec := "fnExactCrc32", apart := false, narrowed := true }
def FnExactCrc32UptoSaid : Prop := fnExactCrc32UptoRow.holds Try.pinned (OpenSpec.upto fnExactCrc32Spec)

/-- 'laws.FnExactCmdFault', WHERE WHAT IT READS IS OF BULK AT MOST 1048576: true; the input reads as it did. -/
def fnExactCmdFaultUptoRow : OpenClaim := { program := "ytjhkfjmgdkcipaa", sum := "a06a600db9066126e047d2e647cb1e8a2b8cf3c089a6e3aa224ebb6a5ad52149", func := "loop.example/s01586/laws.FnExactCmdFault", spec := "fnExactCmdFault", apart := false, narrowed := true }
def FnExactCmdFaultUptoSaid : Prop := fnExactCmdFaultUptoRow.holds Try.pinned (OpenSpec.upto fnExactCmdFaultSpec)

/-- 'laws.FnExactTimeoutOf', WHERE WHAT IT READS IS OF BULK AT MOST 1048576: true; the input reads as it did. -/
def fnExactTimeoutOfUptoRow : OpenClaim := { program := "ytjhkfjmgdkcipaa", sum := "a06a600db9066126e047d2e647cb1e8a2b8cf3c089a6e3aa224ebb6a5ad52149", func := "loop.example/s01586/laws.FnExactTimeoutOf", spec := "fnExactTimeoutOf", apart := false, narrowed := true }
def FnExactTimeoutOfUptoSaid : Prop := fnExactTimeoutOfUptoRow.holds Try.pinned (OpenSpec.upto fnExactTimeoutOfSpec)

/-- 'laws.FnExactFeedRun', WHERE WHAT IT READS IS OF BULK AT MOST 1048576: true; the input reads as it did. -/
def fnExactFeedRunUptoRow : OpenClaim := { program := "ytjhkfjmgdkcipaa", sum := "a06a600db9066126e047d2e647cb1e8a2b8cf3c089a6e3aa224ebb6a5ad52149", func := "loop.example/s01586/laws.FnExactFeedRun", spec := "fnExactFeedRun", inPlace := ["(*sync.WaitGroup).Add", "internal/race.ReleaseMerge", "internal/race.Disable", "internal/race.Enable", "internal/synctest.IsInBubble", "internal/synctest.Associate[sync.WaitGroup]", "sync.fatal", "sync/atomic.OrUint64", "sync/atomic.AddUint64", "internal/race.Read", "sync/atomic.LoadUint64", "sync/atomic.StoreUint64", "internal/synctest.Disassociate[sync.WaitGroup]", "sync.runtime_Semrelease", "(*sync.WaitGroup).Done", "(*sync.WaitGroup).Wait", "internal/race.Acquire", "internal/synctest.IsAssociated[sync.WaitGroup]", "sync/atomic.CompareAndSwapUint64", "internal/race.Write", "sync.runtime_SemacquireWaitGroup"], apart := false, narrowed := true }
def FnExactFeedRunUptoSaid : Prop := fnExactFeedRunUptoRow.holds Try.pinned (OpenSpec.upto fnExactFeedRunSpec)

/-- 'laws.FnExactSetupFault', WHERE WHAT IT READS IS OF BULK AT MOST 1048576: true; the input reads as it did. -/
def fnExactSetupFaultUptoRow : OpenClaim := { program := "ytjhkfjmgdkcipaa", sum := "a06a600db9066126e047d2e647cb1e8a2b8cf3c089a6e3aa224ebb6a5ad52149", func := "loop.example/s01586/laws.FnExactSetupFault", spec := "fnExactSetupFault", apart := false, narrowed := true }
def FnExactSetupFaultUptoSaid : Prop := fnExactSetupFaultUptoRow.holds Try.pinned (OpenSpec.upto fnExactSetupFaultSpec)

/-- 'laws.FnExactSlotDraw', WHERE WHAT IT READS IS OF BULK AT MOST 1048576: true; the input reads as it did. -/
def fnExactSlotDrawUptoRow : OpenClaim := { program := "ytjhkfjmgdkcipaa", sum := "a06a600db9066126e047d2e647cb1e8a2b8cf3c089a6e3aa224ebb6a5ad52149", func := "loop.example/s01586/laws.FnExactSlotDraw", spec := "fnExactSlotDraw", apart := false, narrowed := true }
def FnExactSlotDrawUptoSaid : Prop := fnExactSlotDrawUptoRow.holds Try.pinned (OpenSpec.upto fnExactSlotDrawSpec)

end Rows
end Go.Proofs.Ytjhkfjmgdkcipaa
