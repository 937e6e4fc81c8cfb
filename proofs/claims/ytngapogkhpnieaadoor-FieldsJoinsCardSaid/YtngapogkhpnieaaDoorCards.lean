/-
  DERIVED. GIVEN WITH THE SEED: THE CARDS: each row of YtngapogkhpnieaaDoorRows.lean that lists a variable, with what it lists TIED to the program's text (the seventh form; the later family's looks); each row that meets fmt, with fmt's text TOLD by the authors' own Lean function (tested against real Go, not proved from fmt's source: count such statements apart). THE CARD IS WHAT COUNTS. Prove the row's statement (the work); the ties are given (YtngapogkhpnieaaDoorTie.lean); close each card by the builder's one call (the guide's Derived/Test/ToyasCard.lean, 'card_holds'). Laid BY PROGRAM, IN A SANDBOX (cutbox-door.mjs). By AI agents, Wed Nov 11 2026. No macro, syntax, notation, axiom, sorry.
-/
import Derived.Test.YtngapogkhpnieaaDoorRows
import GoSem.ClaimSeven
namespace Go.Proofs.YtngapogkhpnieaaDoor
namespace Rows

/-- THE TIED CARD OF 'blockwaylaw01.FieldsLines'. -/
def fieldsLinesCard : Claim7 := { stood := { row := fieldsLinesRow, standIns := [], harness := (true, "1ac49167d1b2ada9fb6ff2ae6cfdf9c3a7103e863d68d24934c921b8d26086b7"), looks := false }, kinds := [], alts := [], laidByText := true, laidKinds := [.data, .pinned], laidTests := true, laidLooks := .later }
def FieldsLinesCardSaid : Prop := Claim7.holds Tryd.pinned (.plain (OpenSpec.ofChange fieldsLinesSpec)) fieldsLinesCard

/-- THE TIED CARD OF 'blockwaylaw01.FieldsWords'. -/
def fieldsWordsCard : Claim7 := { stood := { row := fieldsWordsRow, standIns := [], harness := (true, "1ac49167d1b2ada9fb6ff2ae6cfdf9c3a7103e863d68d24934c921b8d26086b7"), looks := false }, kinds := [], alts := [], laidByText := true, laidKinds := [.data, .pinned], laidTests := true, laidLooks := .later }
def FieldsWordsCardSaid : Prop := Claim7.holds Tryd.pinned (.plain (OpenSpec.ofChange fieldsWordsSpec)) fieldsWordsCard

/-- THE TIED CARD OF 'blockwaylaw01.FieldsJoins'. -/
def fieldsJoinsCard : Claim7 := { stood := { row := fieldsJoinsRow, standIns := [], harness := (true, "1ac49167d1b2ada9fb6ff2ae6cfdf9c3a7103e863d68d24934c921b8d26086b7"), looks := false }, kinds := [], alts := [], laidByText := true, laidKinds := [.data, .pinned], laidTests := true, laidLooks := .later }
def FieldsJoinsCardSaid : Prop := Claim7.holds Tryd.pinned (.plain (OpenSpec.ofChange fieldsJoinsSpec)) fieldsJoinsCard

/-- THE TIED CARD OF 'blockwaylaw01.FieldsBack'. -/
def fieldsBackCard : Claim7 := { stood := { row := fieldsBackRow, standIns := [], harness := (true, "1ac49167d1b2ada9fb6ff2ae6cfdf9c3a7103e863d68d24934c921b8d26086b7"), looks := false }, kinds := [], alts := [], laidByText := true, laidKinds := [.data, .pinned], laidTests := true, laidLooks := .later }
def FieldsBackCardSaid : Prop := Claim7.holds Tryd.pinned (.plain (OpenSpec.ofChange fieldsBackSpec)) fieldsBackCard

/-- THE TIED CARD OF 'blockwaylaw01.FieldsFirst'. -/
def fieldsFirstCard : Claim7 := { stood := { row := fieldsFirstRow, standIns := [], harness := (true, "1ac49167d1b2ada9fb6ff2ae6cfdf9c3a7103e863d68d24934c921b8d26086b7"), looks := false }, kinds := [], alts := [], laidByText := true, laidKinds := [.data, .pinned], laidTests := true, laidLooks := .later }
def FieldsFirstCardSaid : Prop := Claim7.holds Tryd.pinned (.plain (OpenSpec.ofChange fieldsFirstSpec)) fieldsFirstCard

/-- THE TIED CARD OF 'blockwaylaw01.FieldsNumbers'. -/
def fieldsNumbersCard : Claim7 := { stood := { row := fieldsNumbersRow, standIns := [], harness := (true, "1ac49167d1b2ada9fb6ff2ae6cfdf9c3a7103e863d68d24934c921b8d26086b7"), looks := false }, kinds := [], alts := [], laidByText := true, laidKinds := [.data, .pinned], laidTests := true, laidLooks := .later }
def FieldsNumbersCardSaid : Prop := Claim7.holds Tryd.pinned (.plain (OpenSpec.ofChange fieldsNumbersSpec)) fieldsNumbersCard

/-- THE SECOND FORM's CARD OF 'blockwaylaw01.FieldsLines'. -/
def fieldsLinesUptoCard : Claim7 := { stood := { row := fieldsLinesUptoRow, standIns := [], harness := (true, "1ac49167d1b2ada9fb6ff2ae6cfdf9c3a7103e863d68d24934c921b8d26086b7"), looks := false }, kinds := [], alts := [], laidByText := true, laidKinds := [.data, .pinned], laidTests := true, laidLooks := .later }
def FieldsLinesUptoCardSaid : Prop := Claim7.holds Tryd.pinned (.plain (OpenSpec.upto fieldsLinesSpec)) fieldsLinesUptoCard

/-- THE SECOND FORM's CARD OF 'blockwaylaw01.FieldsWords'. -/
def fieldsWordsUptoCard : Claim7 := { stood := { row := fieldsWordsUptoRow, standIns := [], harness := (true, "1ac49167d1b2ada9fb6ff2ae6cfdf9c3a7103e863d68d24934c921b8d26086b7"), looks := false }, kinds := [], alts := [], laidByText := true, laidKinds := [.data, .pinned], laidTests := true, laidLooks := .later }
def FieldsWordsUptoCardSaid : Prop := Claim7.holds Tryd.pinned (.plain (OpenSpec.upto fieldsWordsSpec)) fieldsWordsUptoCard

/-- THE SECOND FORM's CARD OF 'blockwaylaw01.FieldsJoins'. -/
def fieldsJoinsUptoCard : Claim7 := { stood := { row := fieldsJoinsUptoRow, standIns := [], harness := (true, "1ac49167d1b2ada9fb6ff2ae6cfdf9c3a7103e863d68d24934c921b8d26086b7"), looks := false }, kinds := [], alts := [], laidByText := true, laidKinds := [.data, .pinned], laidTests := true, laidLooks := .later }
def FieldsJoinsUptoCardSaid : Prop := Claim7.holds Tryd.pinned (.plain (OpenSpec.upto fieldsJoinsSpec)) fieldsJoinsUptoCard

/-- THE SECOND FORM's CARD OF 'blockwaylaw01.FieldsBack'. -/
def fieldsBackUptoCard : Claim7 := { stood := { row := fieldsBackUptoRow, standIns := [], harness := (true, "1ac49167d1b2ada9fb6ff2ae6cfdf9c3a7103e863d68d24934c921b8d26086b7"), looks := false }, kinds := [], alts := [], laidByText := true, laidKinds := [.data, .pinned], laidTests := true, laidLooks := .later }
def FieldsBackUptoCardSaid : Prop := Claim7.holds Tryd.pinned (.plain (OpenSpec.upto fieldsBackSpec)) fieldsBackUptoCard

/-- THE SECOND FORM's CARD OF 'blockwaylaw01.FieldsFirst'. -/
def fieldsFirstUptoCard : Claim7 := { stood := { row := fieldsFirstUptoRow, standIns := [], harness := (true, "1ac49167d1b2ada9fb6ff2ae6cfdf9c3a7103e863d68d24934c921b8d26086b7"), looks := false }, kinds := [], alts := [], laidByText := true, laidKinds := [.data, .pinned], laidTests := true, laidLooks := .later }
def FieldsFirstUptoCardSaid : Prop := Claim7.holds Tryd.pinned (.plain (OpenSpec.upto fieldsFirstSpec)) fieldsFirstUptoCard

/-- THE SECOND FORM's CARD OF 'blockwaylaw01.FieldsNumbers'. -/
def fieldsNumbersUptoCard : Claim7 := { stood := { row := fieldsNumbersUptoRow, standIns := [], harness := (true, "1ac49167d1b2ada9fb6ff2ae6cfdf9c3a7103e863d68d24934c921b8d26086b7"), looks := false }, kinds := [], alts := [], laidByText := true, laidKinds := [.data, .pinned], laidTests := true, laidLooks := .later }
def FieldsNumbersUptoCardSaid : Prop := Claim7.holds Tryd.pinned (.plain (OpenSpec.upto fieldsNumbersSpec)) fieldsNumbersUptoCard
end Rows
end Go.Proofs.YtngapogkhpnieaaDoor
