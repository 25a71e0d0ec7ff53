/-
  DERIVED. GIVEN WITH THE SEED: THE CARDS: each row of YtiknhkkeifemcaaGreatDoorRows.lean that lists a variable, with what it lists TIED to the program's text (the seventh form; the later family's looks); each row that meets fmt, with fmt's text TOLD by the authors' own Lean function (tested against real Go, not proved from fmt's source: count such statements apart). THE CARD IS WHAT COUNTS. Prove the row's statement (the work); the ties are given (YtiknhkkeifemcaaGreatDoorTie.lean); close each card by the builder's one call (the guide's Derived/Test/ToyasCard.lean, 'card_holds'). Laid BY PROGRAM, IN A SANDBOX (cutbox-door.mjs). By AI agents, Wed Nov 11 2026. No macro, syntax, notation, axiom, sorry.
-/
import Derived.Test.YtiknhkkeifemcaaGreatDoorRows
import GoSem.ClaimSeven
namespace Go.Proofs.YtiknhkkeifemcaaGreatDoor
namespace Rows

/-- THE TIED CARD OF 'transomlaw14.JsonreadAll'. -/
def jsonreadAllCard : Claim7 := { stood := { row := jsonreadAllRow, standIns := [], harness := (true, "35a426d49aebfef455d4572f1b3e2c39719a8df9089abec236e8d2928702b39a"), looks := true }, kinds := [], alts := [], laidByText := true, laidKinds := [.data, .data, .data, .data, .sentinel, .sentinel, .pinned], laidTests := true, laidLooks := .later }
def JsonreadAllCardSaid : Prop := Claim7.holds Tryz.pinned (.plain (OpenSpec.ofChange jsonreadAllSpec)) jsonreadAllCard

/-- THE TIED CARD OF 'transomlaw14.JsonreadTurned'. -/
def jsonreadTurnedCard : Claim7 := { stood := { row := jsonreadTurnedRow, standIns := [], harness := (true, "35a426d49aebfef455d4572f1b3e2c39719a8df9089abec236e8d2928702b39a"), looks := true }, kinds := [], alts := [], laidByText := true, laidKinds := [.data, .data, .data, .data, .sentinel, .sentinel, .pinned], laidTests := true, laidLooks := .later }
def JsonreadTurnedCardSaid : Prop := Claim7.holds Tryz.pinned (.plain (OpenSpec.ofChange jsonreadTurnedSpec)) jsonreadTurnedCard

/-- THE TIED CARD OF 'transomlaw14.JsonreadDressed'. -/
def jsonreadDressedCard : Claim7 := { stood := { row := jsonreadDressedRow, standIns := [], harness := (true, "35a426d49aebfef455d4572f1b3e2c39719a8df9089abec236e8d2928702b39a"), looks := true }, kinds := [], alts := [], laidByText := true, laidKinds := [.data, .data, .data, .data, .sentinel, .sentinel, .pinned], laidTests := true, laidLooks := .later }
def JsonreadDressedCardSaid : Prop := Claim7.holds Tryz.pinned (.plain (OpenSpec.ofChange jsonreadDressedSpec)) jsonreadDressedCard

/-- THE TIED CARD OF 'transomlaw14.JsonreadBack'. -/
def jsonreadBackCard : Claim7 := { stood := { row := jsonreadBackRow, standIns := [], harness := (true, "35a426d49aebfef455d4572f1b3e2c39719a8df9089abec236e8d2928702b39a"), looks := true }, kinds := [], alts := [], laidByText := true, laidKinds := [.data, .data, .data, .data, .sentinel, .sentinel, .pinned], laidTests := true, laidLooks := .later }
def JsonreadBackCardSaid : Prop := Claim7.holds Tryz.pinned (.plain (OpenSpec.ofChange jsonreadBackSpec)) jsonreadBackCard

/-- THE TIED CARD OF 'transomlaw14.JsonreadDeep'. -/
def jsonreadDeepCard : Claim7 := { stood := { row := jsonreadDeepRow, standIns := [], harness := (true, "35a426d49aebfef455d4572f1b3e2c39719a8df9089abec236e8d2928702b39a"), looks := true }, kinds := [], alts := [], laidByText := true, laidKinds := [.data, .data, .data, .data, .sentinel, .sentinel, .pinned], laidTests := true, laidLooks := .later }
def JsonreadDeepCardSaid : Prop := Claim7.holds Tryz.pinned (.plain (OpenSpec.ofChange jsonreadDeepSpec)) jsonreadDeepCard

/-- THE TIED CARD OF 'transomlaw14.JsonreadTypes'. -/
def jsonreadTypesCard : Claim7 := { stood := { row := jsonreadTypesRow, standIns := [], harness := (true, "35a426d49aebfef455d4572f1b3e2c39719a8df9089abec236e8d2928702b39a"), looks := true }, kinds := [], alts := [], laidByText := true, laidKinds := [.data, .data, .data, .data, .sentinel, .sentinel, .pinned], laidTests := true, laidLooks := .later }
def JsonreadTypesCardSaid : Prop := Claim7.holds Tryz.pinned (.plain (OpenSpec.ofChange jsonreadTypesSpec)) jsonreadTypesCard

/-- THE TIED CARD OF 'transomlaw15.JsonwriteAll'. -/
def jsonwriteAllCard : Claim7 := { stood := { row := jsonwriteAllRow, standIns := [], harness := (true, "35a426d49aebfef455d4572f1b3e2c39719a8df9089abec236e8d2928702b39a"), looks := true }, kinds := [], alts := [], laidByText := true, laidKinds := [.data, .data, .data], laidTests := true, laidLooks := .later }
def JsonwriteAllCardSaid : Prop := Claim7.holds Tryz.pinned (.plain (OpenSpec.ofChange jsonwriteAllSpec)) jsonwriteAllCard

/-- THE TIED CARD OF 'transomlaw15.JsonwriteOnce'. -/
def jsonwriteOnceCard : Claim7 := { stood := { row := jsonwriteOnceRow, standIns := [], harness := (true, "35a426d49aebfef455d4572f1b3e2c39719a8df9089abec236e8d2928702b39a"), looks := true }, kinds := [], alts := [], laidByText := true, laidKinds := [.data, .data, .data, .data, .sentinel, .sentinel, .pinned], laidTests := true, laidLooks := .later }
def JsonwriteOnceCardSaid : Prop := Claim7.holds Tryz.pinned (.plain (OpenSpec.ofChange jsonwriteOnceSpec)) jsonwriteOnceCard

/-- THE TIED CARD OF 'transomlaw15.JsonwriteNumbers'. -/
def jsonwriteNumbersCard : Claim7 := { stood := { row := jsonwriteNumbersRow, standIns := [], harness := (true, "35a426d49aebfef455d4572f1b3e2c39719a8df9089abec236e8d2928702b39a"), looks := true }, kinds := [], alts := [], laidByText := true, laidKinds := [.data, .data, .data], laidTests := true, laidLooks := .later }
def JsonwriteNumbersCardSaid : Prop := Claim7.holds Tryz.pinned (.plain (OpenSpec.ofChange jsonwriteNumbersSpec)) jsonwriteNumbersCard

/-- THE TIED CARD OF 'transomlaw15.JsonwritePieces'. -/
def jsonwritePiecesCard : Claim7 := { stood := { row := jsonwritePiecesRow, standIns := [], harness := (true, "35a426d49aebfef455d4572f1b3e2c39719a8df9089abec236e8d2928702b39a"), looks := true }, kinds := [], alts := [], laidByText := true, laidKinds := [.data, .data, .data], laidTests := true, laidLooks := .later }
def JsonwritePiecesCardSaid : Prop := Claim7.holds Tryz.pinned (.plain (OpenSpec.ofChange jsonwritePiecesSpec)) jsonwritePiecesCard

/-- THE TIED CARD OF 'transomlaw15.JsonwriteMeters'. -/
def jsonwriteMetersCard : Claim7 := { stood := { row := jsonwriteMetersRow, standIns := [], harness := (true, "35a426d49aebfef455d4572f1b3e2c39719a8df9089abec236e8d2928702b39a"), looks := true }, kinds := [], alts := [], laidByText := true, laidKinds := [.data, .data, .data], laidTests := true, laidLooks := .later }
def JsonwriteMetersCardSaid : Prop := Claim7.holds Tryz.pinned (.plain (OpenSpec.ofChange jsonwriteMetersSpec)) jsonwriteMetersCard

/-- THE SECOND FORM's CARD OF 'transomlaw14.JsonreadAll'. -/
def jsonreadAllUptoCard : Claim7 := { stood := { row := jsonreadAllUptoRow, standIns := [], harness := (true, "35a426d49aebfef455d4572f1b3e2c39719a8df9089abec236e8d2928702b39a"), looks := true }, kinds := [], alts := [], laidByText := true, laidKinds := [.data, .data, .data, .data, .sentinel, .sentinel, .pinned], laidTests := true, laidLooks := .later }
def JsonreadAllUptoCardSaid : Prop := Claim7.holds Tryz.pinned (.plain (OpenSpec.upto jsonreadAllSpec)) jsonreadAllUptoCard

/-- THE SECOND FORM's CARD OF 'transomlaw14.JsonreadTurned'. -/
def jsonreadTurnedUptoCard : Claim7 := { stood := { row := jsonreadTurnedUptoRow, standIns := [], harness := (true, "35a426d49aebfef455d4572f1b3e2c39719a8df9089abec236e8d2928702b39a"), looks := true }, kinds := [], alts := [], laidByText := true, laidKinds := [.data, .data, .data, .data, .sentinel, .sentinel, .pinned], laidTests := true, laidLooks := .later }
def JsonreadTurnedUptoCardSaid : Prop := Claim7.holds Tryz.pinned (.plain (OpenSpec.upto jsonreadTurnedSpec)) jsonreadTurnedUptoCard

/-- THE SECOND FORM's CARD OF 'transomlaw14.JsonreadDressed'. -/
def jsonreadDressedUptoCard : Claim7 := { stood := { row := jsonreadDressedUptoRow, standIns := [], harness := (true, "35a426d49aebfef455d4572f1b3e2c39719a8df9089abec236e8d2928702b39a"), looks := true }, kinds := [], alts := [], laidByText := true, laidKinds := [.data, .data, .data, .data, .sentinel, .sentinel, .pinned], laidTests := true, laidLooks := .later }
def JsonreadDressedUptoCardSaid : Prop := Claim7.holds Tryz.pinned (.plain (OpenSpec.upto jsonreadDressedSpec)) jsonreadDressedUptoCard

/-- THE SECOND FORM's CARD OF 'transomlaw14.JsonreadBack'. -/
def jsonreadBackUptoCard : Claim7 := { stood := { row := jsonreadBackUptoRow, standIns := [], harness := (true, "35a426d49aebfef455d4572f1b3e2c39719a8df9089abec236e8d2928702b39a"), looks := true }, kinds := [], alts := [], laidByText := true, laidKinds := [.data, .data, .data, .data, .sentinel, .sentinel, .pinned], laidTests := true, laidLooks := .later }
def JsonreadBackUptoCardSaid : Prop := Claim7.holds Tryz.pinned (.plain (OpenSpec.upto jsonreadBackSpec)) jsonreadBackUptoCard

/-- THE SECOND FORM's CARD OF 'transomlaw14.JsonreadDeep'. -/
def jsonreadDeepUptoCard : Claim7 := { stood := { row := jsonreadDeepUptoRow, standIns := [], harness := (true, "35a426d49aebfef455d4572f1b3e2c39719a8df9089abec236e8d2928702b39a"), looks := true }, kinds := [], alts := [], laidByText := true, laidKinds := [.data, .data, .data, .data, .sentinel, .sentinel, .pinned], laidTests := true, laidLooks := .later }
def JsonreadDeepUptoCardSaid : Prop := Claim7.holds Tryz.pinned (.plain (OpenSpec.upto jsonreadDeepSpec)) jsonreadDeepUptoCard

/-- THE SECOND FORM's CARD OF 'transomlaw14.JsonreadTypes'. -/
def jsonreadTypesUptoCard : Claim7 := { stood := { row := jsonreadTypesUptoRow, standIns := [], harness := (true, "35a426d49aebfef455d4572f1b3e2c39719a8df9089abec236e8d2928702b39a"), looks := true }, kinds := [], alts := [], laidByText := true, laidKinds := [.data, .data, .data, .data, .sentinel, .sentinel, .pinned], laidTests := true, laidLooks := .later }
def JsonreadTypesUptoCardSaid : Prop := Claim7.holds Tryz.pinned (.plain (OpenSpec.upto jsonreadTypesSpec)) jsonreadTypesUptoCard

/-- THE SECOND FORM's CARD OF 'transomlaw15.JsonwriteAll'. -/
def jsonwriteAllUptoCard : Claim7 := { stood := { row := jsonwriteAllUptoRow, standIns := [], harness := (true, "35a426d49aebfef455d4572f1b3e2c39719a8df9089abec236e8d2928702b39a"), looks := true }, kinds := [], alts := [], laidByText := true, laidKinds := [.data, .data, .data], laidTests := true, laidLooks := .later }
def JsonwriteAllUptoCardSaid : Prop := Claim7.holds Tryz.pinned (.plain (OpenSpec.upto jsonwriteAllSpec)) jsonwriteAllUptoCard

/-- THE SECOND FORM's CARD OF 'transomlaw15.JsonwriteOnce'. -/
def jsonwriteOnceUptoCard : Claim7 := { stood := { row := jsonwriteOnceUptoRow, standIns := [], harness := (true, "35a426d49aebfef455d4572f1b3e2c39719a8df9089abec236e8d2928702b39a"), looks := true }, kinds := [], alts := [], laidByText := true, laidKinds := [.data, .data, .data, .data, .sentinel, .sentinel, .pinned], laidTests := true, laidLooks := .later }
def JsonwriteOnceUptoCardSaid : Prop := Claim7.holds Tryz.pinned (.plain (OpenSpec.upto jsonwriteOnceSpec)) jsonwriteOnceUptoCard

/-- THE SECOND FORM's CARD OF 'transomlaw15.JsonwriteNumbers'. -/
def jsonwriteNumbersUptoCard : Claim7 := { stood := { row := jsonwriteNumbersUptoRow, standIns := [], harness := (true, "35a426d49aebfef455d4572f1b3e2c39719a8df9089abec236e8d2928702b39a"), looks := true }, kinds := [], alts := [], laidByText := true, laidKinds := [.data, .data, .data], laidTests := true, laidLooks := .later }
def JsonwriteNumbersUptoCardSaid : Prop := Claim7.holds Tryz.pinned (.plain (OpenSpec.upto jsonwriteNumbersSpec)) jsonwriteNumbersUptoCard

/-- THE SECOND FORM's CARD OF 'transomlaw15.JsonwritePieces'. -/
def jsonwritePiecesUptoCard : Claim7 := { stood := { row := jsonwritePiecesUptoRow, standIns := [], harness := (true, "35a426d49aebfef455d4572f1b3e2c39719a8df9089abec236e8d2928702b39a"), looks := true }, kinds := [], alts := [], laidByText := true, laidKinds := [.data, .data, .data], laidTests := true, laidLooks := .later }
def JsonwritePiecesUptoCardSaid : Prop := Claim7.holds Tryz.pinned (.plain (OpenSpec.upto jsonwritePiecesSpec)) jsonwritePiecesUptoCard

/-- THE SECOND FORM's CARD OF 'transomlaw15.JsonwriteMeters'. -/
def jsonwriteMetersUptoCard : Claim7 := { stood := { row := jsonwriteMetersUptoRow, standIns := [], harness := (true, "35a426d49aebfef455d4572f1b3e2c39719a8df9089abec236e8d2928702b39a"), looks := true }, kinds := [], alts := [], laidByText := true, laidKinds := [.data, .data, .data], laidTests := true, laidLooks := .later }
def JsonwriteMetersUptoCardSaid : Prop := Claim7.holds Tryz.pinned (.plain (OpenSpec.upto jsonwriteMetersSpec)) jsonwriteMetersUptoCard
end Rows
end Go.Proofs.YtiknhkkeifemcaaGreatDoor
