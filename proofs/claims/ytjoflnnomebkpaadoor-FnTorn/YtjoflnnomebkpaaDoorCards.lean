/-
  DERIVED. GIVEN WITH THE SEED: THE CARDS: each row of YtjoflnnomebkpaaDoorRows.lean that lists a variable, with what it lists TIED to the program's text (the seventh form; the later family's looks); each row that meets fmt, with fmt's text TOLD by the authors' own Lean function (tested against real Go, not proved from fmt's source: count such statements apart). THE CARD IS WHAT COUNTS. Prove the row's statement (the work); the ties are given (YtjoflnnomebkpaaDoorTie.lean); close each card by the builder's one call (the guide's Derived/Test/ToyasCard.lean, 'card_holds'). Laid BY PROGRAM, IN A SANDBOX (cutbox-door.mjs). By AI agents, Wed Nov 11 2026. No macro, syntax, notation, axiom, sorry.
-/
import Derived.Test.YtjoflnnomebkpaaDoorRows
import GoSem.ClaimSeven
namespace Go.Proofs.YtjoflnnomebkpaaDoor
namespace Rows

/-- THE TIED CARD OF 'laws.FnDisk'. -/
def fnDiskCard : Claim7 := { stood := { row := fnDiskRow, standIns := [], harness := (true, "33134b82d5d0000313709f3eb860b3f1237d406511a00b2253a346276956715b"), looks := true }, kinds := [], alts := [], laidByText := true, laidKinds := [.sentinel, .sentinel], laidTests := true, laidLooks := .later }
def FnDiskCardSaid : Prop := Claim7.holds Tryd.pinned (.plain (OpenSpec.ofChange fnDiskSpec)) fnDiskCard

/-- THE TIED CARD OF 'laws.FnTorn'. -/
def fnTornCard : Claim7 := { stood := { row := fnTornRow, standIns := [], harness := (true, "33134b82d5d0000313709f3eb860b3f1237d406511a00b2253a346276956715b"), looks := true }, kinds := [], alts := [], laidByText := true, laidKinds := [.sentinel, .sentinel, .sentinel, .sentinel, .sentinel, .sentinel, .sentinel, .sentinel, .sentinel, .sentinel, .sentinel], laidTests := true, laidLooks := .later }
def FnTornCardSaid : Prop := Claim7.holds Tryd.pinned (.plain (OpenSpec.ofChange fnTornSpec)) fnTornCard

/-- THE TIED CARD OF 'laws.FnExactEncodeRecords'. -/
def fnExactEncodeRecordsCard : Claim7 := { stood := { row := fnExactEncodeRecordsRow, standIns := [], harness := (true, "33134b82d5d0000313709f3eb860b3f1237d406511a00b2253a346276956715b"), looks := true }, kinds := [], alts := [], laidByText := true, laidKinds := [.sentinel], laidTests := true, laidLooks := .later }
def FnExactEncodeRecordsCardSaid : Prop := Claim7.holds Tryd.pinned (.plain (OpenSpec.ofChange fnExactEncodeRecordsSpec)) fnExactEncodeRecordsCard

/-- THE TIED CARD OF 'laws.FnExactDiskWrite'. -/
def fnExactDiskWriteCard : Claim7 := { stood := { row := fnExactDiskWriteRow, standIns := [], harness := (true, "33134b82d5d0000313709f3eb860b3f1237d406511a00b2253a346276956715b"), looks := true }, kinds := [], alts := [], laidByText := true, laidKinds := [.sentinel, .sentinel], laidTests := true, laidLooks := .later }
def FnExactDiskWriteCardSaid : Prop := Claim7.holds Tryd.pinned (.plain (OpenSpec.ofChange fnExactDiskWriteSpec)) fnExactDiskWriteCard

/-- THE TIED CARD OF 'laws.FnExactRestart'. -/
def fnExactRestartCard : Claim7 := { stood := { row := fnExactRestartRow, standIns := [], harness := (true, "33134b82d5d0000313709f3eb860b3f1237d406511a00b2253a346276956715b"), looks := true }, kinds := [], alts := [], laidByText := true, laidKinds := [.sentinel, .sentinel, .sentinel, .sentinel, .sentinel, .sentinel, .sentinel, .sentinel, .sentinel], laidTests := true, laidLooks := .later }
def FnExactRestartCardSaid : Prop := Claim7.holds Tryd.pinned (.plain (OpenSpec.ofChange fnExactRestartSpec)) fnExactRestartCard

/-- THE SECOND FORM's CARD OF 'laws.FnDisk'. -/
def fnDiskUptoCard : Claim7 := { stood := { row := fnDiskUptoRow, standIns := [], harness := (true, "33134b82d5d0000313709f3eb860b3f1237d406511a00b2253a346276956715b"), looks := true }, kinds := [], alts := [], laidByText := true, laidKinds := [.sentinel, .sentinel], laidTests := true, laidLooks := .later }
def FnDiskUptoCardSaid : Prop := Claim7.holds Tryd.pinned (.plain (OpenSpec.upto fnDiskSpec)) fnDiskUptoCard

/-- THE SECOND FORM's CARD OF 'laws.FnTorn'. -/
def fnTornUptoCard : Claim7 := { stood := { row := fnTornUptoRow, standIns := [], harness := (true, "33134b82d5d0000313709f3eb860b3f1237d406511a00b2253a346276956715b"), looks := true }, kinds := [], alts := [], laidByText := true, laidKinds := [.sentinel, .sentinel, .sentinel, .sentinel, .sentinel, .sentinel, .sentinel, .sentinel, .sentinel, .sentinel, .sentinel], laidTests := true, laidLooks := .later }
def FnTornUptoCardSaid : Prop := Claim7.holds Tryd.pinned (.plain (OpenSpec.upto fnTornSpec)) fnTornUptoCard

/-- THE SECOND FORM's CARD OF 'laws.FnExactEncodeRecords'. -/
def fnExactEncodeRecordsUptoCard : Claim7 := { stood := { row := fnExactEncodeRecordsUptoRow, standIns := [], harness := (true, "33134b82d5d0000313709f3eb860b3f1237d406511a00b2253a346276956715b"), looks := true }, kinds := [], alts := [], laidByText := true, laidKinds := [.sentinel], laidTests := true, laidLooks := .later }
def FnExactEncodeRecordsUptoCardSaid : Prop := Claim7.holds Tryd.pinned (.plain (OpenSpec.upto fnExactEncodeRecordsSpec)) fnExactEncodeRecordsUptoCard

/-- THE SECOND FORM's CARD OF 'laws.FnExactDiskWrite'. -/
def fnExactDiskWriteUptoCard : Claim7 := { stood := { row := fnExactDiskWriteUptoRow, standIns := [], harness := (true, "33134b82d5d0000313709f3eb860b3f1237d406511a00b2253a346276956715b"), looks := true }, kinds := [], alts := [], laidByText := true, laidKinds := [.sentinel, .sentinel], laidTests := true, laidLooks := .later }
def FnExactDiskWriteUptoCardSaid : Prop := Claim7.holds Tryd.pinned (.plain (OpenSpec.upto fnExactDiskWriteSpec)) fnExactDiskWriteUptoCard

/-- THE SECOND FORM's CARD OF 'laws.FnExactRestart'. -/
def fnExactRestartUptoCard : Claim7 := { stood := { row := fnExactRestartUptoRow, standIns := [], harness := (true, "33134b82d5d0000313709f3eb860b3f1237d406511a00b2253a346276956715b"), looks := true }, kinds := [], alts := [], laidByText := true, laidKinds := [.sentinel, .sentinel, .sentinel, .sentinel, .sentinel, .sentinel, .sentinel, .sentinel, .sentinel], laidTests := true, laidLooks := .later }
def FnExactRestartUptoCardSaid : Prop := Claim7.holds Tryd.pinned (.plain (OpenSpec.upto fnExactRestartSpec)) fnExactRestartUptoCard
end Rows
end Go.Proofs.YtjoflnnomebkpaaDoor
