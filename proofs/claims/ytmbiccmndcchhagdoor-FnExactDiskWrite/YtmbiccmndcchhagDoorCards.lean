/-
  DERIVED. GIVEN WITH THE SEED: THE CARDS: each row of YtmbiccmndcchhagDoorRows.lean that lists a variable, with what it lists TIED to the program's text (the seventh form; the later family's looks); each row that meets fmt, with fmt's text TOLD by the authors' own Lean function (tested against real Go, not proved from fmt's source: count such statements apart). THE CARD IS WHAT COUNTS. Prove the row's statement (the work); the ties are given (YtmbiccmndcchhagDoorTie.lean); close each card by the builder's one call (the guide's Derived/Test/ToyasCard.lean, 'card_holds'). Laid BY PROGRAM, IN A SANDBOX (cutbox-door.mjs). By AI agents, Wed Nov 11 2026. No macro, syntax, notation, axiom, sorry.
-/
import Derived.Test.YtmbiccmndcchhagDoorRows
import GoSem.ClaimSeven
namespace Go.Proofs.YtmbiccmndcchhagDoor
namespace Rows

/-- THE TIED CARD OF 'laws.FnDisk'. -/
def fnDiskCard : Claim7 := { stood := { row := fnDiskRow, standIns := [], harness := (true, "13b002b4ffe58409a402a2eacb82c174497d4446c42593e0a7d0b7cc9380d52c"), looks := true }, kinds := [], alts := [], laidByText := true, laidKinds := [.sentinel, .sentinel], laidTests := true, laidLooks := .later }
def FnDiskCardSaid : Prop := Claim7.holds Tryd.pinned (.plain (OpenSpec.ofChange fnDiskSpec)) fnDiskCard

/-- THE TIED CARD OF 'laws.FnExactRestart'. -/
def fnExactRestartCard : Claim7 := { stood := { row := fnExactRestartRow, standIns := [], harness := (true, "13b002b4ffe58409a402a2eacb82c174497d4446c42593e0a7d0b7cc9380d52c"), looks := true }, kinds := [], alts := [], laidByText := true, laidKinds := [.sentinel, .sentinel, .sentinel, .sentinel, .sentinel, .sentinel, .sentinel, .sentinel, .sentinel], laidTests := true, laidLooks := .later }
def FnExactRestartCardSaid : Prop := Claim7.holds Tryd.pinned (.plain (OpenSpec.ofChange fnExactRestartSpec)) fnExactRestartCard

/-- THE TIED CARD OF 'laws.FnExactDiskWrite'. -/
def fnExactDiskWriteCard : Claim7 := { stood := { row := fnExactDiskWriteRow, standIns := [], harness := (true, "13b002b4ffe58409a402a2eacb82c174497d4446c42593e0a7d0b7cc9380d52c"), looks := true }, kinds := [], alts := [], laidByText := true, laidKinds := [.sentinel, .sentinel], laidTests := true, laidLooks := .later }
def FnExactDiskWriteCardSaid : Prop := Claim7.holds Tryd.pinned (.plain (OpenSpec.ofChange fnExactDiskWriteSpec)) fnExactDiskWriteCard

/-- THE SECOND FORM's CARD OF 'laws.FnDisk'. -/
def fnDiskUptoCard : Claim7 := { stood := { row := fnDiskUptoRow, standIns := [], harness := (true, "13b002b4ffe58409a402a2eacb82c174497d4446c42593e0a7d0b7cc9380d52c"), looks := true }, kinds := [], alts := [], laidByText := true, laidKinds := [.sentinel, .sentinel], laidTests := true, laidLooks := .later }
def FnDiskUptoCardSaid : Prop := Claim7.holds Tryd.pinned (.plain (OpenSpec.upto fnDiskSpec)) fnDiskUptoCard

/-- THE SECOND FORM's CARD OF 'laws.FnExactRestart'. -/
def fnExactRestartUptoCard : Claim7 := { stood := { row := fnExactRestartUptoRow, standIns := [], harness := (true, "13b002b4ffe58409a402a2eacb82c174497d4446c42593e0a7d0b7cc9380d52c"), looks := true }, kinds := [], alts := [], laidByText := true, laidKinds := [.sentinel, .sentinel, .sentinel, .sentinel, .sentinel, .sentinel, .sentinel, .sentinel, .sentinel], laidTests := true, laidLooks := .later }
def FnExactRestartUptoCardSaid : Prop := Claim7.holds Tryd.pinned (.plain (OpenSpec.upto fnExactRestartSpec)) fnExactRestartUptoCard

/-- THE SECOND FORM's CARD OF 'laws.FnExactDiskWrite'. -/
def fnExactDiskWriteUptoCard : Claim7 := { stood := { row := fnExactDiskWriteUptoRow, standIns := [], harness := (true, "13b002b4ffe58409a402a2eacb82c174497d4446c42593e0a7d0b7cc9380d52c"), looks := true }, kinds := [], alts := [], laidByText := true, laidKinds := [.sentinel, .sentinel], laidTests := true, laidLooks := .later }
def FnExactDiskWriteUptoCardSaid : Prop := Claim7.holds Tryd.pinned (.plain (OpenSpec.upto fnExactDiskWriteSpec)) fnExactDiskWriteUptoCard
end Rows
end Go.Proofs.YtmbiccmndcchhagDoor
