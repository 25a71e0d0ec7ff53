/-
  DERIVED. GIVEN WITH THE SEED: THE CARDS: each row of YtneadcbadnicfaaDoorRows.lean that lists a variable, with what it lists TIED to the program's text (the seventh form; the later family's looks); each row that meets fmt, with fmt's text TOLD by the authors' own Lean function (tested against real Go, not proved from fmt's source: count such statements apart). THE CARD IS WHAT COUNTS. Prove the row's statement (the work); the ties are given (YtneadcbadnicfaaDoorTie.lean); close each card by the builder's one call (the guide's Derived/Test/ToyasCard.lean, 'card_holds'). Laid BY PROGRAM, IN A SANDBOX (cutbox-door.mjs). By AI agents, Wed Nov 11 2026. No macro, syntax, notation, axiom, sorry.
-/
import Derived.Test.YtneadcbadnicfaaDoorRows
import GoSem.ClaimSeven
namespace Go.Proofs.YtneadcbadnicfaaDoor
namespace Rows

/-- THE TIED CARD OF 'transomlaw13.ScanTexts'. -/
def scanTextsCard : Claim7 := { stood := { row := scanTextsRow, standIns := [], harness := (true, "5c292b8bc737983b1e4493726661edb7c700241d20bca648ed794e5a06fb1389"), looks := true }, kinds := [], alts := [], laidByText := true, laidKinds := [.data, .data, .data, .data, .sentinel, .sentinel, .pinned], laidTests := true, laidLooks := .later }
def ScanTextsCardSaid : Prop := Claim7.holds Tryd.pinned (.plain (OpenSpec.ofChange scanTextsSpec)) scanTextsCard

/-- THE TIED CARD OF 'transomlaw13.ScanBack'. -/
def scanBackCard : Claim7 := { stood := { row := scanBackRow, standIns := [], harness := (true, "5c292b8bc737983b1e4493726661edb7c700241d20bca648ed794e5a06fb1389"), looks := true }, kinds := [], alts := [], laidByText := true, laidKinds := [.data, .data, .data, .data, .sentinel, .sentinel, .pinned], laidTests := true, laidLooks := .later }
def ScanBackCardSaid : Prop := Claim7.holds Tryd.pinned (.plain (OpenSpec.ofChange scanBackSpec)) scanBackCard

/-- THE TIED CARD OF 'transomlaw13.ScanUnits'. -/
def scanUnitsCard : Claim7 := { stood := { row := scanUnitsRow, standIns := [], harness := (true, "5c292b8bc737983b1e4493726661edb7c700241d20bca648ed794e5a06fb1389"), looks := true }, kinds := [], alts := [], laidByText := true, laidKinds := [.data, .data, .data, .data, .sentinel, .sentinel, .pinned], laidTests := true, laidLooks := .later }
def ScanUnitsCardSaid : Prop := Claim7.holds Tryd.pinned (.plain (OpenSpec.ofChange scanUnitsSpec)) scanUnitsCard

/-- THE TIED CARD OF 'transomlaw13.ScanSigns'. -/
def scanSignsCard : Claim7 := { stood := { row := scanSignsRow, standIns := [], harness := (true, "5c292b8bc737983b1e4493726661edb7c700241d20bca648ed794e5a06fb1389"), looks := true }, kinds := [], alts := [], laidByText := true, laidKinds := [.data, .data, .data, .data, .sentinel, .sentinel, .pinned], laidTests := true, laidLooks := .later }
def ScanSignsCardSaid : Prop := Claim7.holds Tryd.pinned (.plain (OpenSpec.ofChange scanSignsSpec)) scanSignsCard

/-- THE TIED CARD OF 'transomlaw13.ScanHex'. -/
def scanHexCard : Claim7 := { stood := { row := scanHexRow, standIns := [], harness := (true, "5c292b8bc737983b1e4493726661edb7c700241d20bca648ed794e5a06fb1389"), looks := true }, kinds := [], alts := [], laidByText := true, laidKinds := [.data, .data, .data, .data, .sentinel, .sentinel, .pinned], laidTests := true, laidLooks := .later }
def ScanHexCardSaid : Prop := Claim7.holds Tryd.pinned (.plain (OpenSpec.ofChange scanHexSpec)) scanHexCard

/-- THE TIED CARD OF 'transomlaw13.ScanNil'. -/
def scanNilCard : Claim7 := { stood := { row := scanNilRow, standIns := [], harness := (true, "5c292b8bc737983b1e4493726661edb7c700241d20bca648ed794e5a06fb1389"), looks := true }, kinds := [], alts := [], laidByText := true, laidKinds := [.data, .data, .data, .data, .sentinel, .sentinel, .pinned], laidTests := true, laidLooks := .later }
def ScanNilCardSaid : Prop := Claim7.holds Tryd.pinned (.plain (OpenSpec.ofChange scanNilSpec)) scanNilCard

/-- THE SECOND FORM's CARD OF 'transomlaw13.ScanTexts'. -/
def scanTextsUptoCard : Claim7 := { stood := { row := scanTextsUptoRow, standIns := [], harness := (true, "5c292b8bc737983b1e4493726661edb7c700241d20bca648ed794e5a06fb1389"), looks := true }, kinds := [], alts := [], laidByText := true, laidKinds := [.data, .data, .data, .data, .sentinel, .sentinel, .pinned], laidTests := true, laidLooks := .later }
def ScanTextsUptoCardSaid : Prop := Claim7.holds Tryd.pinned (.plain (OpenSpec.upto scanTextsSpec)) scanTextsUptoCard

/-- THE SECOND FORM's CARD OF 'transomlaw13.ScanBack'. -/
def scanBackUptoCard : Claim7 := { stood := { row := scanBackUptoRow, standIns := [], harness := (true, "5c292b8bc737983b1e4493726661edb7c700241d20bca648ed794e5a06fb1389"), looks := true }, kinds := [], alts := [], laidByText := true, laidKinds := [.data, .data, .data, .data, .sentinel, .sentinel, .pinned], laidTests := true, laidLooks := .later }
def ScanBackUptoCardSaid : Prop := Claim7.holds Tryd.pinned (.plain (OpenSpec.upto scanBackSpec)) scanBackUptoCard

/-- THE SECOND FORM's CARD OF 'transomlaw13.ScanUnits'. -/
def scanUnitsUptoCard : Claim7 := { stood := { row := scanUnitsUptoRow, standIns := [], harness := (true, "5c292b8bc737983b1e4493726661edb7c700241d20bca648ed794e5a06fb1389"), looks := true }, kinds := [], alts := [], laidByText := true, laidKinds := [.data, .data, .data, .data, .sentinel, .sentinel, .pinned], laidTests := true, laidLooks := .later }
def ScanUnitsUptoCardSaid : Prop := Claim7.holds Tryd.pinned (.plain (OpenSpec.upto scanUnitsSpec)) scanUnitsUptoCard

/-- THE SECOND FORM's CARD OF 'transomlaw13.ScanSigns'. -/
def scanSignsUptoCard : Claim7 := { stood := { row := scanSignsUptoRow, standIns := [], harness := (true, "5c292b8bc737983b1e4493726661edb7c700241d20bca648ed794e5a06fb1389"), looks := true }, kinds := [], alts := [], laidByText := true, laidKinds := [.data, .data, .data, .data, .sentinel, .sentinel, .pinned], laidTests := true, laidLooks := .later }
def ScanSignsUptoCardSaid : Prop := Claim7.holds Tryd.pinned (.plain (OpenSpec.upto scanSignsSpec)) scanSignsUptoCard

/-- THE SECOND FORM's CARD OF 'transomlaw13.ScanHex'. -/
def scanHexUptoCard : Claim7 := { stood := { row := scanHexUptoRow, standIns := [], harness := (true, "5c292b8bc737983b1e4493726661edb7c700241d20bca648ed794e5a06fb1389"), looks := true }, kinds := [], alts := [], laidByText := true, laidKinds := [.data, .data, .data, .data, .sentinel, .sentinel, .pinned], laidTests := true, laidLooks := .later }
def ScanHexUptoCardSaid : Prop := Claim7.holds Tryd.pinned (.plain (OpenSpec.upto scanHexSpec)) scanHexUptoCard

/-- THE SECOND FORM's CARD OF 'transomlaw13.ScanNil'. -/
def scanNilUptoCard : Claim7 := { stood := { row := scanNilUptoRow, standIns := [], harness := (true, "5c292b8bc737983b1e4493726661edb7c700241d20bca648ed794e5a06fb1389"), looks := true }, kinds := [], alts := [], laidByText := true, laidKinds := [.data, .data, .data, .data, .sentinel, .sentinel, .pinned], laidTests := true, laidLooks := .later }
def ScanNilUptoCardSaid : Prop := Claim7.holds Tryd.pinned (.plain (OpenSpec.upto scanNilSpec)) scanNilUptoCard
end Rows
end Go.Proofs.YtneadcbadnicfaaDoor
