/-
  DERIVED. GIVEN WITH THE SEED: THE CARDS: each row of YtpoklngcfibaiaeDoorRows.lean that lists a variable, with what it lists TIED to the program's text (the seventh form; the later family's looks); each row that meets fmt, with fmt's text TOLD by the authors' own Lean function (tested against real Go, not proved from fmt's source: count such statements apart). THE CARD IS WHAT COUNTS. Prove the row's statement (the work); the ties are given (YtpoklngcfibaiaeDoorTie.lean); close each card by the builder's one call (the guide's Derived/Test/ToyasCard.lean, 'card_holds'). Laid BY PROGRAM, IN A SANDBOX (cutbox-door.mjs). By AI agents, Wed Nov 11 2026. No macro, syntax, notation, axiom, sorry.
-/
import Derived.Test.YtpoklngcfibaiaeDoorRows
import GoSem.ClaimSeven
namespace Go.Proofs.YtpoklngcfibaiaeDoor
namespace Rows

/-- THE TIED CARD OF 'laws.FnExactDecodeMsg'. -/
def fnExactDecodeMsgCard : Claim7 := { stood := { row := fnExactDecodeMsgRow, standIns := [], harness := (true, "96f0de47f8c67cb0f96678b212cc9081ef5d23e700b3abfe411b55440f24bb4b"), looks := true }, kinds := [], alts := [], laidByText := true, laidKinds := [.handle, .sentinel, .sentinel, .sentinel, .sentinel, .sentinel, .sentinel], laidTests := true, laidLooks := .later }
def FnExactDecodeMsgCardSaid : Prop := Claim7.holds Tryd.pinned (.plain (OpenSpec.ofChange fnExactDecodeMsgSpec)) fnExactDecodeMsgCard

/-- THE SECOND FORM's CARD OF 'laws.FnExactDecodeMsg'. -/
def fnExactDecodeMsgUptoCard : Claim7 := { stood := { row := fnExactDecodeMsgUptoRow, standIns := [], harness := (true, "96f0de47f8c67cb0f96678b212cc9081ef5d23e700b3abfe411b55440f24bb4b"), looks := true }, kinds := [], alts := [], laidByText := true, laidKinds := [.handle, .sentinel, .sentinel, .sentinel, .sentinel, .sentinel, .sentinel], laidTests := true, laidLooks := .later }
def FnExactDecodeMsgUptoCardSaid : Prop := Claim7.holds Tryd.pinned (.plain (OpenSpec.upto fnExactDecodeMsgSpec)) fnExactDecodeMsgUptoCard
end Rows
end Go.Proofs.YtpoklngcfibaiaeDoor
