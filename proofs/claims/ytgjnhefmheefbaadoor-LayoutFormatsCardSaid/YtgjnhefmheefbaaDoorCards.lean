/-
  DERIVED. GIVEN WITH THE SEED: THE CARDS: each row of YtgjnhefmheefbaaDoorRows.lean that lists a variable, with what it lists TIED to the program's text (the seventh form; the later family's looks); each row that meets fmt, with fmt's text TOLD by the authors' own Lean function (tested against real Go, not proved from fmt's source: count such statements apart). THE CARD IS WHAT COUNTS. Prove the row's statement (the work); the ties are given (YtgjnhefmheefbaaDoorTie.lean); close each card by the builder's one call (the guide's Derived/Test/ToyasCard.lean, 'card_holds'). Laid BY PROGRAM, IN A SANDBOX (cutbox-door.mjs). By AI agents, Wed Nov 11 2026. No macro, syntax, notation, axiom, sorry.
-/
import Derived.Test.YtgjnhefmheefbaaDoorRows
import GoSem.ClaimSeven
namespace Go.Proofs.YtgjnhefmheefbaaDoor
namespace Rows

/-- THE TIED CARD OF 'blockwaylaw02.LayoutFormats'. -/
def layoutFormatsCard : Claim7 := { stood := { row := layoutFormatsRow, standIns := [], harness := (true, "4e8f33b8fd51cbda0eec093545686d5b4953f7a58f54718f7c45915ddba5fb57"), looks := false }, kinds := [], alts := [], laidByText := true, laidKinds := [.data, .data, .data, .data], laidTests := true, laidLooks := .later }
def LayoutFormatsCardSaid : Prop := Claim7.holds Tryd.pinned (.plain (OpenSpec.ofChange layoutFormatsSpec)) layoutFormatsCard

/-- THE SECOND FORM's CARD OF 'blockwaylaw02.LayoutFormats'. -/
def layoutFormatsUptoCard : Claim7 := { stood := { row := layoutFormatsUptoRow, standIns := [], harness := (true, "4e8f33b8fd51cbda0eec093545686d5b4953f7a58f54718f7c45915ddba5fb57"), looks := false }, kinds := [], alts := [], laidByText := true, laidKinds := [.data, .data, .data, .data], laidTests := true, laidLooks := .later }
def LayoutFormatsUptoCardSaid : Prop := Claim7.holds Tryd.pinned (.plain (OpenSpec.upto layoutFormatsSpec)) layoutFormatsUptoCard
end Rows
end Go.Proofs.YtgjnhefmheefbaaDoor
