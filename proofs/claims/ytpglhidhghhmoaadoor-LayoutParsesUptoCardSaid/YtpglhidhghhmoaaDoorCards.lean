/-
  DERIVED. GIVEN WITH THE SEED: THE CARDS: each row of YtpglhidhghhmoaaDoorRows.lean that lists a variable, with what it lists TIED to the program's text (the seventh form; the later family's looks); each row that meets fmt, with fmt's text TOLD by the authors' own Lean function (tested against real Go, not proved from fmt's source: count such statements apart). THE CARD IS WHAT COUNTS. Prove the row's statement (the work); the ties are given (YtpglhidhghhmoaaDoorTie.lean); close each card by the builder's one call (the guide's Derived/Test/ToyasCard.lean, 'card_holds'). Laid BY PROGRAM, IN A SANDBOX (cutbox-door.mjs). By AI agents, Wed Nov 11 2026. No macro, syntax, notation, axiom, sorry.
-/
import Derived.Test.YtpglhidhghhmoaaDoorRows
import GoSem.ClaimSeven
namespace Go.Proofs.YtpglhidhghhmoaaDoor
namespace Rows

/-- THE TIED CARD OF 'blockwaylaw02.LayoutParses'. -/
def layoutParsesCard : Claim7 := { stood := { row := layoutParsesRow, standIns := [], harness := (true, "5ead01f882f48fffb18b94ecd17bc5483353dabd125e5c420f65fad67b8ab9df"), looks := false }, kinds := [], alts := [], laidByText := true, laidKinds := [.data], laidTests := true, laidLooks := .later }
def LayoutParsesCardSaid : Prop := Claim7.holds Tryd.pinned (.plain (OpenSpec.ofChange layoutParsesSpec)) layoutParsesCard

/-- THE TIED CARD OF 'blockwaylaw02.LayoutFormats'. -/
def layoutFormatsCard : Claim7 := { stood := { row := layoutFormatsRow, standIns := [], harness := (true, "5ead01f882f48fffb18b94ecd17bc5483353dabd125e5c420f65fad67b8ab9df"), looks := false }, kinds := [], alts := [], laidByText := true, laidKinds := [.data, .data, .data, .data], laidTests := true, laidLooks := .later }
def LayoutFormatsCardSaid : Prop := Claim7.holds Tryd.pinned (.plain (OpenSpec.ofChange layoutFormatsSpec)) layoutFormatsCard

/-- THE TIED CARD OF 'blockwaylaw02.LayoutBack'. -/
def layoutBackCard : Claim7 := { stood := { row := layoutBackRow, standIns := [], harness := (true, "5ead01f882f48fffb18b94ecd17bc5483353dabd125e5c420f65fad67b8ab9df"), looks := false }, kinds := [], alts := [], laidByText := true, laidKinds := [.data, .data, .data, .data], laidTests := true, laidLooks := .later }
def LayoutBackCardSaid : Prop := Claim7.holds Tryd.pinned (.plain (OpenSpec.ofChange layoutBackSpec)) layoutBackCard

/-- THE TIED CARD OF 'blockwaylaw02.LayoutFirst'. -/
def layoutFirstCard : Claim7 := { stood := { row := layoutFirstRow, standIns := [], harness := (true, "5ead01f882f48fffb18b94ecd17bc5483353dabd125e5c420f65fad67b8ab9df"), looks := false }, kinds := [], alts := [], laidByText := true, laidKinds := [.data], laidTests := true, laidLooks := .later }
def LayoutFirstCardSaid : Prop := Claim7.holds Tryd.pinned (.plain (OpenSpec.ofChange layoutFirstSpec)) layoutFirstCard

/-- THE SECOND FORM's CARD OF 'blockwaylaw02.LayoutParses'. -/
def layoutParsesUptoCard : Claim7 := { stood := { row := layoutParsesUptoRow, standIns := [], harness := (true, "5ead01f882f48fffb18b94ecd17bc5483353dabd125e5c420f65fad67b8ab9df"), looks := false }, kinds := [], alts := [], laidByText := true, laidKinds := [.data], laidTests := true, laidLooks := .later }
def LayoutParsesUptoCardSaid : Prop := Claim7.holds Tryd.pinned (.plain (OpenSpec.upto layoutParsesSpec)) layoutParsesUptoCard

/-- THE SECOND FORM's CARD OF 'blockwaylaw02.LayoutFormats'. -/
def layoutFormatsUptoCard : Claim7 := { stood := { row := layoutFormatsUptoRow, standIns := [], harness := (true, "5ead01f882f48fffb18b94ecd17bc5483353dabd125e5c420f65fad67b8ab9df"), looks := false }, kinds := [], alts := [], laidByText := true, laidKinds := [.data, .data, .data, .data], laidTests := true, laidLooks := .later }
def LayoutFormatsUptoCardSaid : Prop := Claim7.holds Tryd.pinned (.plain (OpenSpec.upto layoutFormatsSpec)) layoutFormatsUptoCard

/-- THE SECOND FORM's CARD OF 'blockwaylaw02.LayoutBack'. -/
def layoutBackUptoCard : Claim7 := { stood := { row := layoutBackUptoRow, standIns := [], harness := (true, "5ead01f882f48fffb18b94ecd17bc5483353dabd125e5c420f65fad67b8ab9df"), looks := false }, kinds := [], alts := [], laidByText := true, laidKinds := [.data, .data, .data, .data], laidTests := true, laidLooks := .later }
def LayoutBackUptoCardSaid : Prop := Claim7.holds Tryd.pinned (.plain (OpenSpec.upto layoutBackSpec)) layoutBackUptoCard

/-- THE SECOND FORM's CARD OF 'blockwaylaw02.LayoutFirst'. -/
def layoutFirstUptoCard : Claim7 := { stood := { row := layoutFirstUptoRow, standIns := [], harness := (true, "5ead01f882f48fffb18b94ecd17bc5483353dabd125e5c420f65fad67b8ab9df"), looks := false }, kinds := [], alts := [], laidByText := true, laidKinds := [.data], laidTests := true, laidLooks := .later }
def LayoutFirstUptoCardSaid : Prop := Claim7.holds Tryd.pinned (.plain (OpenSpec.upto layoutFirstSpec)) layoutFirstUptoCard
end Rows
end Go.Proofs.YtpglhidhghhmoaaDoor
