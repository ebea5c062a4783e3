/-
  DERIVED. GIVEN WITH THE SEED: THE CARDS: each row of YtmbiccmndcchhaeDoorRows.lean that lists a variable, with what it lists TIED to the program's text (the seventh form; the later family's looks); each row that meets fmt, with fmt's text TOLD by the authors' own Lean function (tested against real Go, not proved from fmt's source: count such statements apart). THE CARD IS WHAT COUNTS. Prove the row's statement (the work); the ties are given (YtmbiccmndcchhaeDoorTie.lean); close each card by the builder's one call (the guide's Derived/Test/ToyasCard.lean, 'card_holds'). Laid BY PROGRAM, IN A SANDBOX (cutbox-door.mjs). By AI agents, Wed Nov 11 2026. No macro, syntax, notation, axiom, sorry.
-/
import Derived.Test.YtmbiccmndcchhaeDoorRows
import GoSem.ClaimSeven
namespace Go.Proofs.YtmbiccmndcchhaeDoor
namespace Rows

/-- THE TIED CARD OF 'laws.FnExactDecodeMsg'. -/
def fnExactDecodeMsgCard : Claim7 := { stood := { row := fnExactDecodeMsgRow, standIns := [], harness := (true, "bda137766ba668e70d75e72db58f6dbb3ec90ac218a2e83522baf642a9971f5a"), looks := true }, kinds := [], alts := [], laidByText := true, laidKinds := [.handle, .sentinel, .sentinel, .sentinel, .sentinel, .sentinel, .sentinel], laidTests := true, laidLooks := .later }
def FnExactDecodeMsgCardSaid : Prop := Claim7.holds Tryd.pinned (.plain (OpenSpec.ofChange fnExactDecodeMsgSpec)) fnExactDecodeMsgCard

/-- THE TIED CARD OF 'laws.FnExactEncodeRecords'. -/
def fnExactEncodeRecordsCard : Claim7 := { stood := { row := fnExactEncodeRecordsRow, standIns := [], harness := (true, "bda137766ba668e70d75e72db58f6dbb3ec90ac218a2e83522baf642a9971f5a"), looks := true }, kinds := [], alts := [], laidByText := true, laidKinds := [.sentinel], laidTests := true, laidLooks := .later }
def FnExactEncodeRecordsCardSaid : Prop := Claim7.holds Tryd.pinned (.plain (OpenSpec.ofChange fnExactEncodeRecordsSpec)) fnExactEncodeRecordsCard

/-- THE SECOND FORM's CARD OF 'laws.FnExactDecodeMsg'. -/
def fnExactDecodeMsgUptoCard : Claim7 := { stood := { row := fnExactDecodeMsgUptoRow, standIns := [], harness := (true, "bda137766ba668e70d75e72db58f6dbb3ec90ac218a2e83522baf642a9971f5a"), looks := true }, kinds := [], alts := [], laidByText := true, laidKinds := [.handle, .sentinel, .sentinel, .sentinel, .sentinel, .sentinel, .sentinel], laidTests := true, laidLooks := .later }
def FnExactDecodeMsgUptoCardSaid : Prop := Claim7.holds Tryd.pinned (.plain (OpenSpec.upto fnExactDecodeMsgSpec)) fnExactDecodeMsgUptoCard

/-- THE SECOND FORM's CARD OF 'laws.FnExactEncodeRecords'. -/
def fnExactEncodeRecordsUptoCard : Claim7 := { stood := { row := fnExactEncodeRecordsUptoRow, standIns := [], harness := (true, "bda137766ba668e70d75e72db58f6dbb3ec90ac218a2e83522baf642a9971f5a"), looks := true }, kinds := [], alts := [], laidByText := true, laidKinds := [.sentinel], laidTests := true, laidLooks := .later }
def FnExactEncodeRecordsUptoCardSaid : Prop := Claim7.holds Tryd.pinned (.plain (OpenSpec.upto fnExactEncodeRecordsSpec)) fnExactEncodeRecordsUptoCard
end Rows
end Go.Proofs.YtmbiccmndcchhaeDoor
