/-
  DERIVED. GIVEN WITH THE SEED: THE CARDS: each row of YtabnanmfojppjaaDoorRows.lean that lists a variable, with what it lists TIED to the program's text (the seventh form; the later family's looks); each row that meets fmt, with fmt's text TOLD by the authors' own Lean function (tested against real Go, not proved from fmt's source: count such statements apart). THE CARD IS WHAT COUNTS. Prove the row's statement (the work); the ties are given (YtabnanmfojppjaaDoorTie.lean); close each card by the builder's one call (the guide's Derived/Test/ToyasCard.lean, 'card_holds'). Laid BY PROGRAM, IN A SANDBOX (cutbox-door.mjs). By AI agents, Wed Nov 11 2026. No macro, syntax, notation, axiom, sorry.
-/
import Derived.Test.YtabnanmfojppjaaDoorRows
import GoSem.ClaimSeven
namespace Go.Proofs.YtabnanmfojppjaaDoor
namespace Rows

/-- THE TIED CARD OF 'laws.FnExactTellScript'. -/
def fnExactTellScriptCard : Claim7 := { stood := { row := fnExactTellScriptRow, standIns := [], harness := (true, "1e02de76ae3d670601516296430f8d90e83b5a049e16764f80dd63d15837c891"), looks := false }, kinds := [], alts := [], laidByText := true, laidKinds := [.data, .data, .data, .data, .data], laidTests := true, laidLooks := .later }
def FnExactTellScriptCardSaid : Prop := Claim7.holds Tryd.pinned (.plain (OpenSpec.ofChange fnExactTellScriptSpec)) fnExactTellScriptCard

/-- THE SECOND FORM's CARD OF 'laws.FnExactTellScript'. -/
def fnExactTellScriptUptoCard : Claim7 := { stood := { row := fnExactTellScriptUptoRow, standIns := [], harness := (true, "1e02de76ae3d670601516296430f8d90e83b5a049e16764f80dd63d15837c891"), looks := false }, kinds := [], alts := [], laidByText := true, laidKinds := [.data, .data, .data, .data, .data], laidTests := true, laidLooks := .later }
def FnExactTellScriptUptoCardSaid : Prop := Claim7.holds Tryd.pinned (.plain (OpenSpec.upto fnExactTellScriptSpec)) fnExactTellScriptUptoCard
end Rows
end Go.Proofs.YtabnanmfojppjaaDoor
