/-
  DERIVED. GIVEN WITH THE SEED: THE CARDS: each row of YtdobgdbceonjkacDoorRows.lean that lists a variable, with what it lists TIED to the program's text (the seventh form; the later family's looks); each row that meets fmt, with fmt's text TOLD by the authors' own Lean function (tested against real Go, not proved from fmt's source: count such statements apart). THE CARD IS WHAT COUNTS. Prove the row's statement (the work); the ties are given (YtdobgdbceonjkacDoorTie.lean); close each card by the builder's one call (the guide's Derived/Test/ToyasCard.lean, 'card_holds'). Laid BY PROGRAM, IN A SANDBOX (cutbox-door.mjs). By AI agents, Wed Nov 11 2026. No macro, syntax, notation, axiom, sorry.
-/
import Derived.Test.YtdobgdbceonjkacDoorRows
import GoSem.ClaimSeven
namespace Go.Proofs.YtdobgdbceonjkacDoor
namespace Rows

/-- THE TIED CARD OF 'laws.FnExactDecodeCall'. -/
def fnExactDecodeCallCard : Claim7 := { stood := { row := fnExactDecodeCallRow, standIns := [], harness := (true, "4950e52ece74e30077bf45b26997fd21dee2f3f3a6d76b5beb977ce98d331cef"), looks := true }, kinds := [], alts := [], laidByText := true, laidKinds := [.handle, .sentinel, .sentinel, .sentinel, .sentinel, .sentinel, .sentinel], laidTests := true, laidLooks := .later }
def FnExactDecodeCallCardSaid : Prop := Claim7.holds Tryd.pinned (.plain (OpenSpec.ofChange fnExactDecodeCallSpec)) fnExactDecodeCallCard

/-- THE SECOND FORM's CARD OF 'laws.FnExactDecodeCall'. -/
def fnExactDecodeCallUptoCard : Claim7 := { stood := { row := fnExactDecodeCallUptoRow, standIns := [], harness := (true, "4950e52ece74e30077bf45b26997fd21dee2f3f3a6d76b5beb977ce98d331cef"), looks := true }, kinds := [], alts := [], laidByText := true, laidKinds := [.handle, .sentinel, .sentinel, .sentinel, .sentinel, .sentinel, .sentinel], laidTests := true, laidLooks := .later }
def FnExactDecodeCallUptoCardSaid : Prop := Claim7.holds Tryd.pinned (.plain (OpenSpec.upto fnExactDecodeCallSpec)) fnExactDecodeCallUptoCard
end Rows
end Go.Proofs.YtdobgdbceonjkacDoor
