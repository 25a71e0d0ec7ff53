/-
  DERIVED. GIVEN WITH THE SEED: THE CARDS: each row of YtjnpfjiphhnoiaaDoorRows.lean that lists a variable, with what it lists TIED to the program's text (the seventh form; the later family's looks); each row that meets fmt, with fmt's text TOLD by the authors' own Lean function (tested against real Go, not proved from fmt's source: count such statements apart). THE CARD IS WHAT COUNTS. Prove the row's statement (the work); the ties are given (YtjnpfjiphhnoiaaDoorTie.lean); close each card by the builder's one call (the guide's Derived/Test/ToyasCard.lean, 'card_holds'). Laid BY PROGRAM, IN A SANDBOX (cutbox-door.mjs). By AI agents, Wed Nov 11 2026. No macro, syntax, notation, axiom, sorry.
-/
import Derived.Test.YtjnpfjiphhnoiaaDoorRows
import GoSem.ClaimSeven
namespace Go.Proofs.YtjnpfjiphhnoiaaDoor
namespace Rows

/-- THE TIED CARD OF 'transomlaw01.WireMeters'. -/
def wireMetersCard : Claim7 := { stood := { row := wireMetersRow, standIns := [], harness := (true, "1c45726364effe8a1c798c080cd4d2c3124f5bd53831ff23a11779d7fa975074"), looks := false }, kinds := [], alts := [], laidByText := true, laidKinds := [.data, .pinned], laidTests := true, laidLooks := .later }
def WireMetersCardSaid : Prop := Claim7.holds Tryd.pinned (.plain (OpenSpec.ofChange wireMetersSpec)) wireMetersCard

/-- THE TIED CARD OF 'transomlaw01.WireLoads'. -/
def wireLoadsCard : Claim7 := { stood := { row := wireLoadsRow, standIns := [], harness := (true, "1c45726364effe8a1c798c080cd4d2c3124f5bd53831ff23a11779d7fa975074"), looks := false }, kinds := [], alts := [], laidByText := true, laidKinds := [.data, .pinned], laidTests := true, laidLooks := .later }
def WireLoadsCardSaid : Prop := Claim7.holds Tryd.pinned (.plain (OpenSpec.ofChange wireLoadsSpec)) wireLoadsCard

/-- THE TIED CARD OF 'transomlaw01.WireBack'. -/
def wireBackCard : Claim7 := { stood := { row := wireBackRow, standIns := [], harness := (true, "1c45726364effe8a1c798c080cd4d2c3124f5bd53831ff23a11779d7fa975074"), looks := false }, kinds := [], alts := [], laidByText := true, laidKinds := [.data, .pinned], laidTests := true, laidLooks := .later }
def WireBackCardSaid : Prop := Claim7.holds Tryd.pinned (.plain (OpenSpec.ofChange wireBackSpec)) wireBackCard

/-- THE TIED CARD OF 'transomlaw01.WireParts'. -/
def wirePartsCard : Claim7 := { stood := { row := wirePartsRow, standIns := [], harness := (true, "1c45726364effe8a1c798c080cd4d2c3124f5bd53831ff23a11779d7fa975074"), looks := false }, kinds := [], alts := [], laidByText := true, laidKinds := [.data, .pinned], laidTests := true, laidLooks := .later }
def WirePartsCardSaid : Prop := Claim7.holds Tryd.pinned (.plain (OpenSpec.ofChange wirePartsSpec)) wirePartsCard

/-- THE TIED CARD OF 'transomlaw01.WireSigns'. -/
def wireSignsCard : Claim7 := { stood := { row := wireSignsRow, standIns := [], harness := (true, "1c45726364effe8a1c798c080cd4d2c3124f5bd53831ff23a11779d7fa975074"), looks := false }, kinds := [], alts := [], laidByText := true, laidKinds := [.data, .pinned], laidTests := true, laidLooks := .later }
def WireSignsCardSaid : Prop := Claim7.holds Tryd.pinned (.plain (OpenSpec.ofChange wireSignsSpec)) wireSignsCard

/-- THE TIED CARD OF 'transomlaw01.WireTexts'. -/
def wireTextsCard : Claim7 := { stood := { row := wireTextsRow, standIns := [], harness := (true, "1c45726364effe8a1c798c080cd4d2c3124f5bd53831ff23a11779d7fa975074"), looks := false }, kinds := [], alts := [], laidByText := true, laidKinds := [.data, .pinned], laidTests := true, laidLooks := .later }
def WireTextsCardSaid : Prop := Claim7.holds Tryd.pinned (.plain (OpenSpec.ofChange wireTextsSpec)) wireTextsCard

/-- THE TIED CARD OF 'transomlaw01.WireRunes'. -/
def wireRunesCard : Claim7 := { stood := { row := wireRunesRow, standIns := [], harness := (true, "1c45726364effe8a1c798c080cd4d2c3124f5bd53831ff23a11779d7fa975074"), looks := false }, kinds := [], alts := [], laidByText := true, laidKinds := [.data, .pinned], laidTests := true, laidLooks := .later }
def WireRunesCardSaid : Prop := Claim7.holds Tryd.pinned (.plain (OpenSpec.ofChange wireRunesSpec)) wireRunesCard

/-- THE SECOND FORM's CARD OF 'transomlaw01.WireMeters'. -/
def wireMetersUptoCard : Claim7 := { stood := { row := wireMetersUptoRow, standIns := [], harness := (true, "1c45726364effe8a1c798c080cd4d2c3124f5bd53831ff23a11779d7fa975074"), looks := false }, kinds := [], alts := [], laidByText := true, laidKinds := [.data, .pinned], laidTests := true, laidLooks := .later }
def WireMetersUptoCardSaid : Prop := Claim7.holds Tryd.pinned (.plain (OpenSpec.upto wireMetersSpec)) wireMetersUptoCard

/-- THE SECOND FORM's CARD OF 'transomlaw01.WireLoads'. -/
def wireLoadsUptoCard : Claim7 := { stood := { row := wireLoadsUptoRow, standIns := [], harness := (true, "1c45726364effe8a1c798c080cd4d2c3124f5bd53831ff23a11779d7fa975074"), looks := false }, kinds := [], alts := [], laidByText := true, laidKinds := [.data, .pinned], laidTests := true, laidLooks := .later }
def WireLoadsUptoCardSaid : Prop := Claim7.holds Tryd.pinned (.plain (OpenSpec.upto wireLoadsSpec)) wireLoadsUptoCard

/-- THE SECOND FORM's CARD OF 'transomlaw01.WireBack'. -/
def wireBackUptoCard : Claim7 := { stood := { row := wireBackUptoRow, standIns := [], harness := (true, "1c45726364effe8a1c798c080cd4d2c3124f5bd53831ff23a11779d7fa975074"), looks := false }, kinds := [], alts := [], laidByText := true, laidKinds := [.data, .pinned], laidTests := true, laidLooks := .later }
def WireBackUptoCardSaid : Prop := Claim7.holds Tryd.pinned (.plain (OpenSpec.upto wireBackSpec)) wireBackUptoCard

/-- THE SECOND FORM's CARD OF 'transomlaw01.WireParts'. -/
def wirePartsUptoCard : Claim7 := { stood := { row := wirePartsUptoRow, standIns := [], harness := (true, "1c45726364effe8a1c798c080cd4d2c3124f5bd53831ff23a11779d7fa975074"), looks := false }, kinds := [], alts := [], laidByText := true, laidKinds := [.data, .pinned], laidTests := true, laidLooks := .later }
def WirePartsUptoCardSaid : Prop := Claim7.holds Tryd.pinned (.plain (OpenSpec.upto wirePartsSpec)) wirePartsUptoCard

/-- THE SECOND FORM's CARD OF 'transomlaw01.WireSigns'. -/
def wireSignsUptoCard : Claim7 := { stood := { row := wireSignsUptoRow, standIns := [], harness := (true, "1c45726364effe8a1c798c080cd4d2c3124f5bd53831ff23a11779d7fa975074"), looks := false }, kinds := [], alts := [], laidByText := true, laidKinds := [.data, .pinned], laidTests := true, laidLooks := .later }
def WireSignsUptoCardSaid : Prop := Claim7.holds Tryd.pinned (.plain (OpenSpec.upto wireSignsSpec)) wireSignsUptoCard

/-- THE SECOND FORM's CARD OF 'transomlaw01.WireTexts'. -/
def wireTextsUptoCard : Claim7 := { stood := { row := wireTextsUptoRow, standIns := [], harness := (true, "1c45726364effe8a1c798c080cd4d2c3124f5bd53831ff23a11779d7fa975074"), looks := false }, kinds := [], alts := [], laidByText := true, laidKinds := [.data, .pinned], laidTests := true, laidLooks := .later }
def WireTextsUptoCardSaid : Prop := Claim7.holds Tryd.pinned (.plain (OpenSpec.upto wireTextsSpec)) wireTextsUptoCard

/-- THE SECOND FORM's CARD OF 'transomlaw01.WireRunes'. -/
def wireRunesUptoCard : Claim7 := { stood := { row := wireRunesUptoRow, standIns := [], harness := (true, "1c45726364effe8a1c798c080cd4d2c3124f5bd53831ff23a11779d7fa975074"), looks := false }, kinds := [], alts := [], laidByText := true, laidKinds := [.data, .pinned], laidTests := true, laidLooks := .later }
def WireRunesUptoCardSaid : Prop := Claim7.holds Tryd.pinned (.plain (OpenSpec.upto wireRunesSpec)) wireRunesUptoCard
end Rows
end Go.Proofs.YtjnpfjiphhnoiaaDoor
