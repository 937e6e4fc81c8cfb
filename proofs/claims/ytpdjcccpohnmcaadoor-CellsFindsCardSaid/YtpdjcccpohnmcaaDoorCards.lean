/-
  DERIVED. GIVEN WITH THE SEED: THE CARDS: each row of YtpdjcccpohnmcaaDoorRows.lean that lists a variable, with what it lists TIED to the program's text (the seventh form; the later family's looks); each row that meets fmt, with fmt's text TOLD by the authors' own Lean function (tested against real Go, not proved from fmt's source: count such statements apart). THE CARD IS WHAT COUNTS. Prove the row's statement (the work); the ties are given (YtpdjcccpohnmcaaDoorTie.lean); close each card by the builder's one call (the guide's Derived/Test/ToyasCard.lean, 'card_holds'). Laid BY PROGRAM, IN A SANDBOX (cutbox-door.mjs). By AI agents, Wed Nov 11 2026. No macro, syntax, notation, axiom, sorry.
-/
import Derived.Test.YtpdjcccpohnmcaaDoorRows
import GoSem.ClaimSeven
namespace Go.Proofs.YtpdjcccpohnmcaaDoor
namespace Rows

/-- THE TIED CARD OF 'blockwaylaw09.CellsFinds'. -/
def cellsFindsCard : Claim7 := { stood := { row := cellsFindsRow, standIns := [], harness := (true, "bf4035de07ff30b833ddc5c5e0f469e3962fc2b269a981b6fb4227d41cdb283e"), looks := false }, kinds := [], alts := [], laidByText := true, laidKinds := [.data, .data, .data], laidTests := true, laidLooks := .later }
def CellsFindsCardSaid : Prop := Claim7.holds Tryd.pinned (.plain (OpenSpec.ofChange cellsFindsSpec)) cellsFindsCard

/-- THE SECOND FORM's CARD OF 'blockwaylaw09.CellsFinds'. -/
def cellsFindsUptoCard : Claim7 := { stood := { row := cellsFindsUptoRow, standIns := [], harness := (true, "bf4035de07ff30b833ddc5c5e0f469e3962fc2b269a981b6fb4227d41cdb283e"), looks := false }, kinds := [], alts := [], laidByText := true, laidKinds := [.data, .data, .data], laidTests := true, laidLooks := .later }
def CellsFindsUptoCardSaid : Prop := Claim7.holds Tryd.pinned (.plain (OpenSpec.upto cellsFindsSpec)) cellsFindsUptoCard
end Rows
end Go.Proofs.YtpdjcccpohnmcaaDoor
