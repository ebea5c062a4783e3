/-
  DERIVED. GIVEN WITH THE SEED: THE CARDS: each row of YtlfnlhbkagjheaaDoorRows.lean that lists a variable, with what it lists TIED to the program's text (the seventh form; the later family's looks); each row that meets fmt, with fmt's text TOLD by the authors' own Lean function (tested against real Go, not proved from fmt's source: count such statements apart). THE CARD IS WHAT COUNTS. Prove the row's statement (the work); the ties are given (YtlfnlhbkagjheaaDoorTie.lean); close each card by the builder's one call (the guide's Derived/Test/ToyasCard.lean, 'card_holds'). Laid BY PROGRAM, IN A SANDBOX (cutbox-door.mjs). By AI agents, Wed Nov 11 2026. No macro, syntax, notation, axiom, sorry.
-/
import Derived.Test.YtlfnlhbkagjheaaDoorRows
import GoSem.ClaimSeven
namespace Go.Proofs.YtlfnlhbkagjheaaDoor
namespace Rows

/-- THE TIED CARD OF 'laws.FnExactRecover'. -/
def fnExactRecoverCard : Claim7 := { stood := { row := fnExactRecoverRow, standIns := [], harness := (true, "7cf059c49174a858943139e949cd55bd72a5bb5da16bd50d71fb22593d9c97ef"), looks := true }, kinds := [], alts := [], laidByText := true, laidKinds := [.sentinel, .sentinel, .sentinel, .sentinel, .sentinel, .sentinel, .sentinel, .sentinel, .sentinel], laidTests := true, laidLooks := .later }
def FnExactRecoverCardSaid : Prop := Claim7.holds Tryd.pinned (.plain (OpenSpec.ofChange fnExactRecoverSpec)) fnExactRecoverCard

/-- THE TIED CARD OF 'laws.FnExactRestart'. -/
def fnExactRestartCard : Claim7 := { stood := { row := fnExactRestartRow, standIns := [], harness := (true, "7cf059c49174a858943139e949cd55bd72a5bb5da16bd50d71fb22593d9c97ef"), looks := true }, kinds := [], alts := [], laidByText := true, laidKinds := [.sentinel, .sentinel, .sentinel, .sentinel, .sentinel, .sentinel, .sentinel, .sentinel, .sentinel], laidTests := true, laidLooks := .later }
def FnExactRestartCardSaid : Prop := Claim7.holds Tryd.pinned (.plain (OpenSpec.ofChange fnExactRestartSpec)) fnExactRestartCard

/-- THE SECOND FORM's CARD OF 'laws.FnExactRecover'. -/
def fnExactRecoverUptoCard : Claim7 := { stood := { row := fnExactRecoverUptoRow, standIns := [], harness := (true, "7cf059c49174a858943139e949cd55bd72a5bb5da16bd50d71fb22593d9c97ef"), looks := true }, kinds := [], alts := [], laidByText := true, laidKinds := [.sentinel, .sentinel, .sentinel, .sentinel, .sentinel, .sentinel, .sentinel, .sentinel, .sentinel], laidTests := true, laidLooks := .later }
def FnExactRecoverUptoCardSaid : Prop := Claim7.holds Tryd.pinned (.plain (OpenSpec.upto fnExactRecoverSpec)) fnExactRecoverUptoCard

/-- THE SECOND FORM's CARD OF 'laws.FnExactRestart'. -/
def fnExactRestartUptoCard : Claim7 := { stood := { row := fnExactRestartUptoRow, standIns := [], harness := (true, "7cf059c49174a858943139e949cd55bd72a5bb5da16bd50d71fb22593d9c97ef"), looks := true }, kinds := [], alts := [], laidByText := true, laidKinds := [.sentinel, .sentinel, .sentinel, .sentinel, .sentinel, .sentinel, .sentinel, .sentinel, .sentinel], laidTests := true, laidLooks := .later }
def FnExactRestartUptoCardSaid : Prop := Claim7.holds Tryd.pinned (.plain (OpenSpec.upto fnExactRestartSpec)) fnExactRestartUptoCard
end Rows
end Go.Proofs.YtlfnlhbkagjheaaDoor
