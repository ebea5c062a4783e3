/-
  DERIVED. GIVEN WITH THE SEED: THE CARDS: each row of YtdobgdbceonjkabDoorRows.lean that lists a variable, with what it lists TIED to the program's text (the seventh form; the later family's looks); each row that meets fmt, with fmt's text TOLD by the authors' own Lean function (tested against real Go, not proved from fmt's source: count such statements apart). THE CARD IS WHAT COUNTS. Prove the row's statement (the work); the ties are given (YtdobgdbceonjkabDoorTie.lean); close each card by the builder's one call (the guide's Derived/Test/ToyasCard.lean, 'card_holds'). Laid BY PROGRAM, IN A SANDBOX (cutbox-door.mjs). By AI agents, Wed Nov 11 2026. No macro, syntax, notation, axiom, sorry.
-/
import Derived.Test.YtdobgdbceonjkabDoorRows
import GoSem.ClaimSeven
namespace Go.Proofs.YtdobgdbceonjkabDoor
namespace Rows

/-- THE TIED CARD OF 'laws.FnExactDecodeReply'. -/
def fnExactDecodeReplyCard : Claim7 := { stood := { row := fnExactDecodeReplyRow, standIns := [], harness := (true, "23b987fbf9d39f244abf5f877c168ecb76718d5a8175a908a8a5a2bb63884803"), looks := true }, kinds := [], alts := [], laidByText := true, laidKinds := [.handle, .sentinel, .sentinel, .sentinel, .sentinel, .sentinel, .sentinel], laidTests := true, laidLooks := .later }
def FnExactDecodeReplyCardSaid : Prop := Claim7.holds Tryd.pinned (.plain (OpenSpec.ofChange fnExactDecodeReplySpec)) fnExactDecodeReplyCard

/-- THE SECOND FORM's CARD OF 'laws.FnExactDecodeReply'. -/
def fnExactDecodeReplyUptoCard : Claim7 := { stood := { row := fnExactDecodeReplyUptoRow, standIns := [], harness := (true, "23b987fbf9d39f244abf5f877c168ecb76718d5a8175a908a8a5a2bb63884803"), looks := true }, kinds := [], alts := [], laidByText := true, laidKinds := [.handle, .sentinel, .sentinel, .sentinel, .sentinel, .sentinel, .sentinel], laidTests := true, laidLooks := .later }
def FnExactDecodeReplyUptoCardSaid : Prop := Claim7.holds Tryd.pinned (.plain (OpenSpec.upto fnExactDecodeReplySpec)) fnExactDecodeReplyUptoCard
end Rows
end Go.Proofs.YtdobgdbceonjkabDoor
