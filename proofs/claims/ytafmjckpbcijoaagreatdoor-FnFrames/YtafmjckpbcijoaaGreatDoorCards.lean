/-
  DERIVED. GIVEN WITH THE SEED: THE CARDS: each row of YtafmjckpbcijoaaGreatDoorRows.lean that lists a variable, with what it lists TIED to the program's text (the seventh form; the later family's looks); each row that meets fmt, with fmt's text TOLD by the authors' own Lean function (tested against real Go, not proved from fmt's source: count such statements apart). THE CARD IS WHAT COUNTS. Prove the row's statement (the work); the ties are given (YtafmjckpbcijoaaGreatDoorTie.lean); close each card by the builder's one call (the guide's Derived/Test/ToyasCard.lean, 'card_holds'). Laid BY PROGRAM, IN A SANDBOX (cutbox-door.mjs). By AI agents, Wed Nov 11 2026. No macro, syntax, notation, axiom, sorry.
-/
import Derived.Test.YtafmjckpbcijoaaGreatDoorRows
import GoSem.ClaimSeven
namespace Go.Proofs.YtafmjckpbcijoaaGreatDoor
namespace Rows

/-- THE TIED CARD OF 'laws.FnSpoilt'. -/
def fnSpoiltCard : Claim7 := { stood := { row := fnSpoiltRow, standIns := [], harness := (true, "2deb0946ffe51c1f86ee60fc9120ddecab0ff1187a9cdae805382d25c8fb5f59"), looks := true }, kinds := [], alts := [], laidByText := true, laidKinds := [.handle, .sentinel, .sentinel, .sentinel, .sentinel, .sentinel, .sentinel], laidTests := true, laidLooks := .later }
def FnSpoiltCardSaid : Prop := Claim7.holds Tryz.pinned (.plain (OpenSpec.ofChange fnSpoiltSpec)) fnSpoiltCard

/-- THE TIED CARD OF 'laws.FnFrames'. -/
def fnFramesCard : Claim7 := { stood := { row := fnFramesRow, standIns := [], harness := (true, "2deb0946ffe51c1f86ee60fc9120ddecab0ff1187a9cdae805382d25c8fb5f59"), looks := true }, kinds := [], alts := [], laidByText := true, laidKinds := [.handle, .sentinel, .sentinel, .sentinel, .sentinel, .sentinel, .sentinel], laidTests := true, laidLooks := .later }
def FnFramesCardSaid : Prop := Claim7.holds Tryz.pinned (.plain (OpenSpec.ofChange fnFramesSpec)) fnFramesCard

/-- THE SECOND FORM's CARD OF 'laws.FnSpoilt'. -/
def fnSpoiltUptoCard : Claim7 := { stood := { row := fnSpoiltUptoRow, standIns := [], harness := (true, "2deb0946ffe51c1f86ee60fc9120ddecab0ff1187a9cdae805382d25c8fb5f59"), looks := true }, kinds := [], alts := [], laidByText := true, laidKinds := [.handle, .sentinel, .sentinel, .sentinel, .sentinel, .sentinel, .sentinel], laidTests := true, laidLooks := .later }
def FnSpoiltUptoCardSaid : Prop := Claim7.holds Tryz.pinned (.plain (OpenSpec.upto fnSpoiltSpec)) fnSpoiltUptoCard

/-- THE SECOND FORM's CARD OF 'laws.FnFrames'. -/
def fnFramesUptoCard : Claim7 := { stood := { row := fnFramesUptoRow, standIns := [], harness := (true, "2deb0946ffe51c1f86ee60fc9120ddecab0ff1187a9cdae805382d25c8fb5f59"), looks := true }, kinds := [], alts := [], laidByText := true, laidKinds := [.handle, .sentinel, .sentinel, .sentinel, .sentinel, .sentinel, .sentinel], laidTests := true, laidLooks := .later }
def FnFramesUptoCardSaid : Prop := Claim7.holds Tryz.pinned (.plain (OpenSpec.upto fnFramesSpec)) fnFramesUptoCard
end Rows
end Go.Proofs.YtafmjckpbcijoaaGreatDoor
