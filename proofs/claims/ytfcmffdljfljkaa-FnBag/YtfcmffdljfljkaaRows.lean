/-
  No cell of these rows narrows 'for every input' (looked for: loops, veiled, ifaces, maps, wideKeys, modest, calm, conditions, laid).
  DERIVED. THE GIVEN ROWS OF THIS SEAT. 5 by the template 'for every input the law returns true; each argument reads behind the call as it read before'; 0 by the template 'total and deterministic' (their statements: YtfcmffdljfljkaaTotals.lean).
  GIVEN WITH THE SEED: the statements are not yours to turn. If you find one false, say at which input.
  Laid BY PROGRAM, IN A SANDBOX (cutbox-rows.mjs): the forced cells as the released guide's own fill.sh prints them over the translation af3b03aedc5ffcf8… (all of the seat's roots in one cut). By AI agents, Wed Nov 11 2026. No macro, syntax, notation, axiom, sorry.
-/
import Derived.Test.YtfcmffdljfljkaaChecked
import GoSem.Claim
import GoSem.ClaimJoined
import GoSem.ClaimMapViews
import Derived.JoinedTies
import Derived.KernelRfl
namespace Go.Proofs.Ytfcmffdljfljkaa
/- THE CELL 'sum', in the pinned program and in every row, IS THE sha256 OF THE DUMP (.gsa) THAT YtfcmffdljfljkaaProg.lean LOADS. Nothing in Lean hashes anything: it is a label: what it is worth is what the hold of that sum in a sandbox is worth. -/
noncomputable def Try.pinned : Pinned := { name := "ytfcmffdljfljkaa", sum := "af3b03aedc5ffcf87101776d351d35875a6ec7d0dc49bf07e330dd68c74b5a00", checked := Try.checked }
namespace Rows
def none {H : Type} : Left H := { results := [], args := [] }

/-- 'laws.FnExactBagWall': WHATEVER THE INPUT: true; the input reads as it did. -/
def fnExactBagWallSpec : ChangeSpec := { name := "fnExactBagWall", fn := fun _ => fun
  | [d1, d2, d3] => { results := [.lit (.bool true)], args := [d1, d2, d3] }
  | _ => none }
def fnExactBagWallRow : OpenClaim := { program := "ytfcmffdljfljkaa", sum := "af3b03aedc5ffcf87101776d351d35875a6ec7d0dc49bf07e330dd68c74b5a00", func := "loop.example/s01586/laws.FnExactBagWall", spec := "fnExactBagWall", unfollowed := true, recurses := true, apart := false }
def FnExactBagWallSaid : Prop := fnExactBagWallRow.holds Try.pinned (OpenSpec.ofChange fnExactBagWallSpec)

/-- ITS FALSE NEIGHBOUR: 'it returns false'. Refute it at one input. -/
def fnExactBagWallWrong : ChangeSpec := { name := "fnExactBagWall", fn := fun _ => fun
  | [d1, d2, d3] => { results := [.lit (.bool false)], args := [d1, d2, d3] }
  | _ => none }
def FnExactBagWallWrongFalsely : Prop := fnExactBagWallRow.holds Try.pinned (OpenSpec.ofChange fnExactBagWallWrong)

/-- 'laws.FnExactBagPut': WHATEVER THE INPUT: true; the input reads as it did. -/
def fnExactBagPutSpec : ChangeSpec := { name := "fnExactBagPut", fn := fun _ => fun
  | [d1, d2, d3, d4] => { results := [.lit (.bool true)], args := [d1, d2, d3, d4] }
  | _ => none }
def fnExactBagPutRow : OpenClaim := { program := "ytfcmffdljfljkaa", sum := "af3b03aedc5ffcf87101776d351d35875a6ec7d0dc49bf07e330dd68c74b5a00", func := "loop.example/s01586/laws.FnExactBagPut", spec := "fnExactBagPut", apart := false }
def FnExactBagPutSaid : Prop := fnExactBagPutRow.holds Try.pinned (OpenSpec.ofChange fnExactBagPutSpec)

/-- ITS FALSE NEIGHBOUR: 'it returns false'. Refute it at one input. -/
def fnExactBagPutWrong : ChangeSpec := { name := "fnExactBagPut", fn := fun _ => fun
  | [d1, d2, d3, d4] => { results := [.lit (.bool false)], args := [d1, d2, d3, d4] }
  | _ => none }
def FnExactBagPutWrongFalsely : Prop := fnExactBagPutRow.holds Try.pinned (OpenSpec.ofChange fnExactBagPutWrong)

/-- 'laws.FnExactEncodeMsg': WHATEVER THE INPUT: true; the input reads as it did. -/
def fnExactEncodeMsgSpec : ChangeSpec := { name := "fnExactEncodeMsg", fn := fun _ => fun
  | [d] => { results := [.lit (.bool true)], args := [d] }
  | _ => none }
def fnExactEncodeMsgRow : OpenClaim := { program := "ytfcmffdljfljkaa", sum := "af3b03aedc5ffcf87101776d351d35875a6ec7d0dc49bf07e330dd68c74b5a00", func := "loop.example/s01586/laws.FnExactEncodeMsg", spec := "fnExactEncodeMsg", unfollowed := true, recurses := true, apart := false }
def FnExactEncodeMsgSaid : Prop := fnExactEncodeMsgRow.holds Try.pinned (OpenSpec.ofChange fnExactEncodeMsgSpec)

/-- ITS FALSE NEIGHBOUR: 'it returns false'. Refute it at one input. -/
def fnExactEncodeMsgWrong : ChangeSpec := { name := "fnExactEncodeMsg", fn := fun _ => fun
  | [d] => { results := [.lit (.bool false)], args := [d] }
  | _ => none }
def FnExactEncodeMsgWrongFalsely : Prop := fnExactEncodeMsgRow.holds Try.pinned (OpenSpec.ofChange fnExactEncodeMsgWrong)

/-- 'laws.FnBag': WHATEVER THE INPUT: true; the input reads as it did. -/
def fnBagSpec : ChangeSpec := { name := "fnBag", fn := fun _ => fun
  | [d] => { results := [.lit (.bool true)], args := [d] }
  | _ => none }
def fnBagRow : OpenClaim := { program := "ytfcmffdljfljkaa", sum := "af3b03aedc5ffcf87101776d351d35875a6ec7d0dc49bf07e330dd68c74b5a00", func := "loop.example/s01586/laws.FnBag", spec := "fnBag", unfollowed := true, recurses := true, apart := false }
def FnBagSaid : Prop := fnBagRow.holds Try.pinned (OpenSpec.ofChange fnBagSpec)

/-- ITS FALSE NEIGHBOUR: 'it returns false'. Refute it at one input. -/
def fnBagWrong : ChangeSpec := { name := "fnBag", fn := fun _ => fun
  | [d] => { results := [.lit (.bool false)], args := [d] }
  | _ => none }
def FnBagWrongFalsely : Prop := fnBagRow.holds Try.pinned (OpenSpec.ofChange fnBagWrong)

/-- 'laws.FnExactBagTake': WHATEVER THE INPUT: true; the input reads as it did. -/
def fnExactBagTakeSpec : ChangeSpec := { name := "fnExactBagTake", fn := fun _ => fun
  | [d1, d2, d3] => { results := [.lit (.bool true)], args := [d1, d2, d3] }
  | _ => none }
def fnExactBagTakeRow : OpenClaim := { program := "ytfcmffdljfljkaa", sum := "af3b03aedc5ffcf87101776d351d35875a6ec7d0dc49bf07e330dd68c74b5a00", func := "loop.example/s01586/laws.FnExactBagTake", spec := "fnExactBagTake", apart := false }
def FnExactBagTakeSaid : Prop := fnExactBagTakeRow.holds Try.pinned (OpenSpec.ofChange fnExactBagTakeSpec)

/-- ITS FALSE NEIGHBOUR: 'it returns false'. Refute it at one input. -/
def fnExactBagTakeWrong : ChangeSpec := { name := "fnExactBagTake", fn := fun _ => fun
  | [d1, d2, d3] => { results := [.lit (.bool false)], args := [d1, d2, d3] }
  | _ => none }
def FnExactBagTakeWrongFalsely : Prop := fnExactBagTakeRow.holds Try.pinned (OpenSpec.ofChange fnExactBagTakeWrong)

/- THE SECOND FORM. 'bulk': how many values and letters a reading holds, each counted each time it is reached (what is shared counts as often as it is met; a slice's spare places count too). A statement '..UptoSaid' is the law's where the arguments, and the package variables that the reading takes, are together of bulk at most 1048576: NARROWER than '..Said'. Prove '..Said' where nothing that the law and all that it calls make is longer than what came in: it says more and counts as full. Else prove '..UptoSaid'. A law counts once. -/
mutual
def uptoBulk {H : Type} : DataW H → Nat
  | .lit (.string bytes) => bytes.length + 1
  | .lit _ => 1
  | .nil => 1
  | .ptr d => uptoBulk d + 1
  | .slice elems spare => uptoBulkAll elems + uptoBulkAll spare + 1
  | .agg parts => uptoBulkAll parts + 1
  | .iface _ d => uptoBulk d + 1
  | .map entries => uptoBulkEntries entries + 1
  | .held _ => 1
def uptoBulkAll {H : Type} : List (DataW H) → Nat
  | [] => 0
  | d :: r => uptoBulk d + uptoBulkAll r
def uptoBulkEntries {H : Type} : List (Lit × DataW H) → Nat
  | [] => 0
  | x :: r => uptoBulkEntry x + uptoBulkEntries r
def uptoBulkEntry {H : Type} : Lit × DataW H → Nat
  | (.string bytes, d) => bytes.length + uptoBulk d + 1
  | (_, d) => uptoBulk d + 1
 end
def uptoSmall : (H : Type) → List (DataW H) → Bool := fun _ ds => decide (uptoBulkAll ds ≤ 1048576)
def OpenSpec.upto (s : _root_.Go.ChangeSpec) : _root_.Go.OpenSpec := { _root_.Go.OpenSpec.ofChange s with cond := some uptoSmall }

/-- 'laws.FnExactBagWall', WHERE WHAT IT READS IS OF BULK AT MOST 1048576: true; the input reads as it did. -/
def fnExactBagWallUptoRow : OpenClaim := { program := "ytfcmffdljfljkaa", sum := "af3b03aedc5ffcf87101776d351d35875a6ec7d0dc49bf07e330dd68c74b5a00", func := "loop.example/s01586/laws.FnExactBagWall", spec := "fnExactBagWall", unfollowed := true, recurses := true, apart := false, narrowed := true }
def FnExactBagWallUptoSaid : Prop := fnExactBagWallUptoRow.holds Try.pinned (OpenSpec.upto fnExactBagWallSpec)

/-- 'laws.FnExactBagPut', WHERE WHAT IT READS IS OF BULK AT MOST 1048576: true; the input reads as it did. -/
def fnExactBagPutUptoRow : OpenClaim := { program := "ytfcmffdljfljkaa", sum := "af3b03aedc5ffcf87101776d351d35875a6ec7d0dc49bf07e330dd68c74b5a00", func := "loop.example/s01586/laws.FnExactBagPut", spec := "fnExactBagPut", apart := false, narrowed := true }
def FnExactBagPutUptoSaid : Prop := fnExactBagPutUptoRow.holds Try.pinned (OpenSpec.upto fnExactBagPutSpec)

/-- 'laws.FnExactEncodeMsg', WHERE WHAT IT READS IS OF BULK AT MOST 1048576: true; the input reads as it did. -/
def fnExactEncodeMsgUptoRow : OpenClaim := { program := "ytfcmffdljfljkaa", sum := "af3b03aedc5ffcf87101776d351d35875a6ec7d0dc49bf07e330dd68c74b5a00", func := "loop.example/s01586/laws.FnExactEncodeMsg", spec := "fnExactEncodeMsg", unfollowed := true, recurses := true, apart := false, narrowed := true }
def FnExactEncodeMsgUptoSaid : Prop := fnExactEncodeMsgUptoRow.holds Try.pinned (OpenSpec.upto fnExactEncodeMsgSpec)

/-- 'laws.FnBag', WHERE WHAT IT READS IS OF BULK AT MOST 1048576: true; the input reads as it did. -/
def fnBagUptoRow : OpenClaim := { program := "ytfcmffdljfljkaa", sum := "af3b03aedc5ffcf87101776d351d35875a6ec7d0dc49bf07e330dd68c74b5a00", func := "loop.example/s01586/laws.FnBag", spec := "fnBag", unfollowed := true, recurses := true, apart := false, narrowed := true }
def FnBagUptoSaid : Prop := fnBagUptoRow.holds Try.pinned (OpenSpec.upto fnBagSpec)

/-- 'laws.FnExactBagTake', WHERE WHAT IT READS IS OF BULK AT MOST 1048576: true; the input reads as it did. -/
def fnExactBagTakeUptoRow : OpenClaim := { program := "ytfcmffdljfljkaa", sum := "af3b03aedc5ffcf87101776d351d35875a6ec7d0dc49bf07e330dd68c74b5a00", func := "loop.example/s01586/laws.FnExactBagTake", spec := "fnExactBagTake", apart := false, narrowed := true }
def FnExactBagTakeUptoSaid : Prop := fnExactBagTakeUptoRow.holds Try.pinned (OpenSpec.upto fnExactBagTakeSpec)

end Rows
end Go.Proofs.Ytfcmffdljfljkaa
