/-
  DERIVED. GIVEN WITH THE SEED: THE CARDS: each row of YtachghaegokpdaaDoorRows.lean that lists a variable, with what it lists TIED to the program's text (the seventh form; the later family's looks); each row that meets fmt, with fmt's text TOLD by the authors' own Lean function (tested against real Go, not proved from fmt's source: count such statements apart). THE CARD IS WHAT COUNTS. Prove the row's statement (the work); the ties are given (YtachghaegokpdaaDoorTie.lean); close each card by the builder's one call (the guide's Derived/Test/ToyasCard.lean, 'card_holds'). Laid BY PROGRAM, IN A SANDBOX (cutbox-door.mjs). By AI agents, Wed Nov 11 2026. No macro, syntax, notation, axiom, sorry.
-/
import Derived.Test.YtachghaegokpdaaDoorRows
import GoSem.ClaimSeven
namespace Go.Proofs.YtachghaegokpdaaDoor
namespace Rows

/-- THE TIED CARD OF 'transomlaw06.LayoutWords'. -/
def layoutWordsCard : Claim7 := { stood := { row := layoutWordsRow, standIns := [], harness := (true, "51c235a510dd0deb95f1f00ae2ca5760e99efb174cb1970a549ede598552ced6"), looks := false }, kinds := [], alts := [], laidByText := true, laidKinds := [.data], laidTests := true, laidLooks := .later }
def LayoutWordsCardSaid : Prop := Claim7.holds Tryd.pinned (.plain (OpenSpec.ofChange layoutWordsSpec)) layoutWordsCard

/-- THE TIED CARD OF 'transomlaw07.ViewFits'. -/
def viewFitsCard : Claim7 := { stood := { row := viewFitsRow, standIns := [], harness := (true, "51c235a510dd0deb95f1f00ae2ca5760e99efb174cb1970a549ede598552ced6"), looks := false }, kinds := [], alts := [], laidByText := true, laidKinds := [.data, .pinned], laidTests := true, laidLooks := .later }
def ViewFitsCardSaid : Prop := Claim7.holds Tryd.pinned (.plain (OpenSpec.ofChange viewFitsSpec)) viewFitsCard

/-- THE TIED CARD OF 'transomlaw07.ViewDefaults'. -/
def viewDefaultsCard : Claim7 := { stood := { row := viewDefaultsRow, standIns := [], harness := (true, "51c235a510dd0deb95f1f00ae2ca5760e99efb174cb1970a549ede598552ced6"), looks := false }, kinds := [], alts := [], laidByText := true, laidKinds := [.data, .pinned], laidTests := true, laidLooks := .later }
def ViewDefaultsCardSaid : Prop := Claim7.holds Tryd.pinned (.plain (OpenSpec.ofChange viewDefaultsSpec)) viewDefaultsCard

/-- THE TIED CARD OF 'transomlaw10.FlatreadAll'. -/
def flatreadAllCard : Claim7 := { stood := { row := flatreadAllRow, standIns := [], harness := (true, "51c235a510dd0deb95f1f00ae2ca5760e99efb174cb1970a549ede598552ced6"), looks := false }, kinds := [], alts := [], laidByText := true, laidKinds := [.data, .pinned], laidTests := true, laidLooks := .later }
def FlatreadAllCardSaid : Prop := Claim7.holds Tryd.pinned (.plain (OpenSpec.ofChange flatreadAllSpec)) flatreadAllCard

/-- THE TIED CARD OF 'transomlaw10.FlatreadTurned'. -/
def flatreadTurnedCard : Claim7 := { stood := { row := flatreadTurnedRow, standIns := [], harness := (true, "51c235a510dd0deb95f1f00ae2ca5760e99efb174cb1970a549ede598552ced6"), looks := false }, kinds := [], alts := [], laidByText := true, laidKinds := [.data, .pinned], laidTests := true, laidLooks := .later }
def FlatreadTurnedCardSaid : Prop := Claim7.holds Tryd.pinned (.plain (OpenSpec.ofChange flatreadTurnedSpec)) flatreadTurnedCard

/-- THE TIED CARD OF 'transomlaw10.FlatreadBack'. -/
def flatreadBackCard : Claim7 := { stood := { row := flatreadBackRow, standIns := [], harness := (true, "51c235a510dd0deb95f1f00ae2ca5760e99efb174cb1970a549ede598552ced6"), looks := false }, kinds := [], alts := [], laidByText := true, laidKinds := [.data, .pinned], laidTests := true, laidLooks := .later }
def FlatreadBackCardSaid : Prop := Claim7.holds Tryd.pinned (.plain (OpenSpec.ofChange flatreadBackSpec)) flatreadBackCard

/-- THE TIED CARD OF 'transomlaw10.FlatreadBudgets'. -/
def flatreadBudgetsCard : Claim7 := { stood := { row := flatreadBudgetsRow, standIns := [], harness := (true, "51c235a510dd0deb95f1f00ae2ca5760e99efb174cb1970a549ede598552ced6"), looks := false }, kinds := [], alts := [], laidByText := true, laidKinds := [.data, .pinned], laidTests := true, laidLooks := .later }
def FlatreadBudgetsCardSaid : Prop := Claim7.holds Tryd.pinned (.plain (OpenSpec.ofChange flatreadBudgetsSpec)) flatreadBudgetsCard

/-- THE TIED CARD OF 'transomlaw10.FlatreadDeep'. -/
def flatreadDeepCard : Claim7 := { stood := { row := flatreadDeepRow, standIns := [], harness := (true, "51c235a510dd0deb95f1f00ae2ca5760e99efb174cb1970a549ede598552ced6"), looks := false }, kinds := [], alts := [], laidByText := true, laidKinds := [.data, .pinned], laidTests := true, laidLooks := .later }
def FlatreadDeepCardSaid : Prop := Claim7.holds Tryd.pinned (.plain (OpenSpec.ofChange flatreadDeepSpec)) flatreadDeepCard

/-- THE TIED CARD OF 'transomlaw10.FlatreadHeads'. -/
def flatreadHeadsCard : Claim7 := { stood := { row := flatreadHeadsRow, standIns := [], harness := (true, "51c235a510dd0deb95f1f00ae2ca5760e99efb174cb1970a549ede598552ced6"), looks := false }, kinds := [], alts := [], laidByText := true, laidKinds := [.data, .pinned], laidTests := true, laidLooks := .later }
def FlatreadHeadsCardSaid : Prop := Claim7.holds Tryd.pinned (.plain (OpenSpec.ofChange flatreadHeadsSpec)) flatreadHeadsCard

/-- THE TIED CARD OF 'transomlaw10.FlatreadShares'. -/
def flatreadSharesCard : Claim7 := { stood := { row := flatreadSharesRow, standIns := [], harness := (true, "51c235a510dd0deb95f1f00ae2ca5760e99efb174cb1970a549ede598552ced6"), looks := false }, kinds := [], alts := [], laidByText := true, laidKinds := [.data, .pinned], laidTests := true, laidLooks := .later }
def FlatreadSharesCardSaid : Prop := Claim7.holds Tryd.pinned (.plain (OpenSpec.ofChange flatreadSharesSpec)) flatreadSharesCard

/-- THE TIED CARD OF 'transomlaw10.FlatreadLoops'. -/
def flatreadLoopsCard : Claim7 := { stood := { row := flatreadLoopsRow, standIns := [], harness := (true, "51c235a510dd0deb95f1f00ae2ca5760e99efb174cb1970a549ede598552ced6"), looks := false }, kinds := [], alts := [], laidByText := true, laidKinds := [.data, .pinned], laidTests := true, laidLooks := .later }
def FlatreadLoopsCardSaid : Prop := Claim7.holds Tryd.pinned (.plain (OpenSpec.ofChange flatreadLoopsSpec)) flatreadLoopsCard

/-- THE TIED CARD OF 'transomlaw10.FlatreadSpread'. -/
def flatreadSpreadCard : Claim7 := { stood := { row := flatreadSpreadRow, standIns := [], harness := (true, "51c235a510dd0deb95f1f00ae2ca5760e99efb174cb1970a549ede598552ced6"), looks := false }, kinds := [], alts := [], laidByText := true, laidKinds := [.data, .pinned], laidTests := true, laidLooks := .later }
def FlatreadSpreadCardSaid : Prop := Claim7.holds Tryd.pinned (.plain (OpenSpec.ofChange flatreadSpreadSpec)) flatreadSpreadCard

/-- THE SECOND FORM's CARD OF 'transomlaw06.LayoutWords'. -/
def layoutWordsUptoCard : Claim7 := { stood := { row := layoutWordsUptoRow, standIns := [], harness := (true, "51c235a510dd0deb95f1f00ae2ca5760e99efb174cb1970a549ede598552ced6"), looks := false }, kinds := [], alts := [], laidByText := true, laidKinds := [.data], laidTests := true, laidLooks := .later }
def LayoutWordsUptoCardSaid : Prop := Claim7.holds Tryd.pinned (.plain (OpenSpec.upto layoutWordsSpec)) layoutWordsUptoCard

/-- THE SECOND FORM's CARD OF 'transomlaw07.ViewFits'. -/
def viewFitsUptoCard : Claim7 := { stood := { row := viewFitsUptoRow, standIns := [], harness := (true, "51c235a510dd0deb95f1f00ae2ca5760e99efb174cb1970a549ede598552ced6"), looks := false }, kinds := [], alts := [], laidByText := true, laidKinds := [.data, .pinned], laidTests := true, laidLooks := .later }
def ViewFitsUptoCardSaid : Prop := Claim7.holds Tryd.pinned (.plain (OpenSpec.upto viewFitsSpec)) viewFitsUptoCard

/-- THE SECOND FORM's CARD OF 'transomlaw07.ViewDefaults'. -/
def viewDefaultsUptoCard : Claim7 := { stood := { row := viewDefaultsUptoRow, standIns := [], harness := (true, "51c235a510dd0deb95f1f00ae2ca5760e99efb174cb1970a549ede598552ced6"), looks := false }, kinds := [], alts := [], laidByText := true, laidKinds := [.data, .pinned], laidTests := true, laidLooks := .later }
def ViewDefaultsUptoCardSaid : Prop := Claim7.holds Tryd.pinned (.plain (OpenSpec.upto viewDefaultsSpec)) viewDefaultsUptoCard

/-- THE SECOND FORM's CARD OF 'transomlaw10.FlatreadAll'. -/
def flatreadAllUptoCard : Claim7 := { stood := { row := flatreadAllUptoRow, standIns := [], harness := (true, "51c235a510dd0deb95f1f00ae2ca5760e99efb174cb1970a549ede598552ced6"), looks := false }, kinds := [], alts := [], laidByText := true, laidKinds := [.data, .pinned], laidTests := true, laidLooks := .later }
def FlatreadAllUptoCardSaid : Prop := Claim7.holds Tryd.pinned (.plain (OpenSpec.upto flatreadAllSpec)) flatreadAllUptoCard

/-- THE SECOND FORM's CARD OF 'transomlaw10.FlatreadTurned'. -/
def flatreadTurnedUptoCard : Claim7 := { stood := { row := flatreadTurnedUptoRow, standIns := [], harness := (true, "51c235a510dd0deb95f1f00ae2ca5760e99efb174cb1970a549ede598552ced6"), looks := false }, kinds := [], alts := [], laidByText := true, laidKinds := [.data, .pinned], laidTests := true, laidLooks := .later }
def FlatreadTurnedUptoCardSaid : Prop := Claim7.holds Tryd.pinned (.plain (OpenSpec.upto flatreadTurnedSpec)) flatreadTurnedUptoCard

/-- THE SECOND FORM's CARD OF 'transomlaw10.FlatreadBack'. -/
def flatreadBackUptoCard : Claim7 := { stood := { row := flatreadBackUptoRow, standIns := [], harness := (true, "51c235a510dd0deb95f1f00ae2ca5760e99efb174cb1970a549ede598552ced6"), looks := false }, kinds := [], alts := [], laidByText := true, laidKinds := [.data, .pinned], laidTests := true, laidLooks := .later }
def FlatreadBackUptoCardSaid : Prop := Claim7.holds Tryd.pinned (.plain (OpenSpec.upto flatreadBackSpec)) flatreadBackUptoCard

/-- THE SECOND FORM's CARD OF 'transomlaw10.FlatreadBudgets'. -/
def flatreadBudgetsUptoCard : Claim7 := { stood := { row := flatreadBudgetsUptoRow, standIns := [], harness := (true, "51c235a510dd0deb95f1f00ae2ca5760e99efb174cb1970a549ede598552ced6"), looks := false }, kinds := [], alts := [], laidByText := true, laidKinds := [.data, .pinned], laidTests := true, laidLooks := .later }
def FlatreadBudgetsUptoCardSaid : Prop := Claim7.holds Tryd.pinned (.plain (OpenSpec.upto flatreadBudgetsSpec)) flatreadBudgetsUptoCard

/-- THE SECOND FORM's CARD OF 'transomlaw10.FlatreadDeep'. -/
def flatreadDeepUptoCard : Claim7 := { stood := { row := flatreadDeepUptoRow, standIns := [], harness := (true, "51c235a510dd0deb95f1f00ae2ca5760e99efb174cb1970a549ede598552ced6"), looks := false }, kinds := [], alts := [], laidByText := true, laidKinds := [.data, .pinned], laidTests := true, laidLooks := .later }
def FlatreadDeepUptoCardSaid : Prop := Claim7.holds Tryd.pinned (.plain (OpenSpec.upto flatreadDeepSpec)) flatreadDeepUptoCard

/-- THE SECOND FORM's CARD OF 'transomlaw10.FlatreadHeads'. -/
def flatreadHeadsUptoCard : Claim7 := { stood := { row := flatreadHeadsUptoRow, standIns := [], harness := (true, "51c235a510dd0deb95f1f00ae2ca5760e99efb174cb1970a549ede598552ced6"), looks := false }, kinds := [], alts := [], laidByText := true, laidKinds := [.data, .pinned], laidTests := true, laidLooks := .later }
def FlatreadHeadsUptoCardSaid : Prop := Claim7.holds Tryd.pinned (.plain (OpenSpec.upto flatreadHeadsSpec)) flatreadHeadsUptoCard

/-- THE SECOND FORM's CARD OF 'transomlaw10.FlatreadShares'. -/
def flatreadSharesUptoCard : Claim7 := { stood := { row := flatreadSharesUptoRow, standIns := [], harness := (true, "51c235a510dd0deb95f1f00ae2ca5760e99efb174cb1970a549ede598552ced6"), looks := false }, kinds := [], alts := [], laidByText := true, laidKinds := [.data, .pinned], laidTests := true, laidLooks := .later }
def FlatreadSharesUptoCardSaid : Prop := Claim7.holds Tryd.pinned (.plain (OpenSpec.upto flatreadSharesSpec)) flatreadSharesUptoCard

/-- THE SECOND FORM's CARD OF 'transomlaw10.FlatreadLoops'. -/
def flatreadLoopsUptoCard : Claim7 := { stood := { row := flatreadLoopsUptoRow, standIns := [], harness := (true, "51c235a510dd0deb95f1f00ae2ca5760e99efb174cb1970a549ede598552ced6"), looks := false }, kinds := [], alts := [], laidByText := true, laidKinds := [.data, .pinned], laidTests := true, laidLooks := .later }
def FlatreadLoopsUptoCardSaid : Prop := Claim7.holds Tryd.pinned (.plain (OpenSpec.upto flatreadLoopsSpec)) flatreadLoopsUptoCard

/-- THE SECOND FORM's CARD OF 'transomlaw10.FlatreadSpread'. -/
def flatreadSpreadUptoCard : Claim7 := { stood := { row := flatreadSpreadUptoRow, standIns := [], harness := (true, "51c235a510dd0deb95f1f00ae2ca5760e99efb174cb1970a549ede598552ced6"), looks := false }, kinds := [], alts := [], laidByText := true, laidKinds := [.data, .pinned], laidTests := true, laidLooks := .later }
def FlatreadSpreadUptoCardSaid : Prop := Claim7.holds Tryd.pinned (.plain (OpenSpec.upto flatreadSpreadSpec)) flatreadSpreadUptoCard
end Rows
end Go.Proofs.YtachghaegokpdaaDoor
