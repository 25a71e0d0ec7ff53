/-
  DERIVED. GIVEN WITH THE SEED: THE CARDS: each row of YtjeoekggdohhiaaDoorRows.lean that lists a variable, with what it lists TIED to the program's text (the seventh form; the later family's looks); each row that meets fmt, with fmt's text TOLD by the authors' own Lean function (tested against real Go, not proved from fmt's source: count such statements apart). THE CARD IS WHAT COUNTS. Prove the row's statement (the work); the ties are given (YtjeoekggdohhiaaDoorTie.lean); close each card by the builder's one call (the guide's Derived/Test/ToyasCard.lean, 'card_holds'). Laid BY PROGRAM, IN A SANDBOX (cutbox-door.mjs). By AI agents, Wed Nov 11 2026. No macro, syntax, notation, axiom, sorry.
-/
import Derived.Test.YtjeoekggdohhiaaDoorRows
import GoSem.ClaimSeven
namespace Go.Proofs.YtjeoekggdohhiaaDoor
namespace Rows

/-- THE TIED CARD OF 'transomlaw07.ViewTrees'. -/
def viewTreesCard : Claim7 := { stood := { row := viewTreesRow, standIns := [], harness := (true, "dd6090d3c7ad70a3bafca3cf26bd936935711194d9888e55362b99bfc2a15f49"), looks := false }, kinds := [], alts := [], laidByText := true, laidKinds := [.data, .pinned], laidTests := true, laidLooks := .later }
def ViewTreesCardSaid : Prop := Claim7.holds Tryd.pinned (.plain (OpenSpec.ofChange viewTreesSpec)) viewTreesCard

/-- THE TIED CARD OF 'transomlaw07.ViewFits'. -/
def viewFitsCard : Claim7 := { stood := { row := viewFitsRow, standIns := [], harness := (true, "dd6090d3c7ad70a3bafca3cf26bd936935711194d9888e55362b99bfc2a15f49"), looks := false }, kinds := [], alts := [], laidByText := true, laidKinds := [.data, .pinned], laidTests := true, laidLooks := .later }
def ViewFitsCardSaid : Prop := Claim7.holds Tryd.pinned (.plain (OpenSpec.ofChange viewFitsSpec)) viewFitsCard

/-- THE TIED CARD OF 'transomlaw07.ViewTurned'. -/
def viewTurnedCard : Claim7 := { stood := { row := viewTurnedRow, standIns := [], harness := (true, "dd6090d3c7ad70a3bafca3cf26bd936935711194d9888e55362b99bfc2a15f49"), looks := false }, kinds := [], alts := [], laidByText := true, laidKinds := [.data, .pinned], laidTests := true, laidLooks := .later }
def ViewTurnedCardSaid : Prop := Claim7.holds Tryd.pinned (.plain (OpenSpec.ofChange viewTurnedSpec)) viewTurnedCard

/-- THE TIED CARD OF 'transomlaw07.ViewDefaults'. -/
def viewDefaultsCard : Claim7 := { stood := { row := viewDefaultsRow, standIns := [], harness := (true, "dd6090d3c7ad70a3bafca3cf26bd936935711194d9888e55362b99bfc2a15f49"), looks := false }, kinds := [], alts := [], laidByText := true, laidKinds := [.data, .pinned], laidTests := true, laidLooks := .later }
def ViewDefaultsCardSaid : Prop := Claim7.holds Tryd.pinned (.plain (OpenSpec.ofChange viewDefaultsSpec)) viewDefaultsCard

/-- THE TIED CARD OF 'transomlaw07.ViewDeep'. -/
def viewDeepCard : Claim7 := { stood := { row := viewDeepRow, standIns := [], harness := (true, "dd6090d3c7ad70a3bafca3cf26bd936935711194d9888e55362b99bfc2a15f49"), looks := false }, kinds := [], alts := [], laidByText := true, laidKinds := [.data, .pinned], laidTests := true, laidLooks := .later }
def ViewDeepCardSaid : Prop := Claim7.holds Tryd.pinned (.plain (OpenSpec.ofChange viewDeepSpec)) viewDeepCard

/-- THE SECOND FORM's CARD OF 'transomlaw07.ViewTrees'. -/
def viewTreesUptoCard : Claim7 := { stood := { row := viewTreesUptoRow, standIns := [], harness := (true, "dd6090d3c7ad70a3bafca3cf26bd936935711194d9888e55362b99bfc2a15f49"), looks := false }, kinds := [], alts := [], laidByText := true, laidKinds := [.data, .pinned], laidTests := true, laidLooks := .later }
def ViewTreesUptoCardSaid : Prop := Claim7.holds Tryd.pinned (.plain (OpenSpec.upto viewTreesSpec)) viewTreesUptoCard

/-- THE SECOND FORM's CARD OF 'transomlaw07.ViewFits'. -/
def viewFitsUptoCard : Claim7 := { stood := { row := viewFitsUptoRow, standIns := [], harness := (true, "dd6090d3c7ad70a3bafca3cf26bd936935711194d9888e55362b99bfc2a15f49"), looks := false }, kinds := [], alts := [], laidByText := true, laidKinds := [.data, .pinned], laidTests := true, laidLooks := .later }
def ViewFitsUptoCardSaid : Prop := Claim7.holds Tryd.pinned (.plain (OpenSpec.upto viewFitsSpec)) viewFitsUptoCard

/-- THE SECOND FORM's CARD OF 'transomlaw07.ViewTurned'. -/
def viewTurnedUptoCard : Claim7 := { stood := { row := viewTurnedUptoRow, standIns := [], harness := (true, "dd6090d3c7ad70a3bafca3cf26bd936935711194d9888e55362b99bfc2a15f49"), looks := false }, kinds := [], alts := [], laidByText := true, laidKinds := [.data, .pinned], laidTests := true, laidLooks := .later }
def ViewTurnedUptoCardSaid : Prop := Claim7.holds Tryd.pinned (.plain (OpenSpec.upto viewTurnedSpec)) viewTurnedUptoCard

/-- THE SECOND FORM's CARD OF 'transomlaw07.ViewDefaults'. -/
def viewDefaultsUptoCard : Claim7 := { stood := { row := viewDefaultsUptoRow, standIns := [], harness := (true, "dd6090d3c7ad70a3bafca3cf26bd936935711194d9888e55362b99bfc2a15f49"), looks := false }, kinds := [], alts := [], laidByText := true, laidKinds := [.data, .pinned], laidTests := true, laidLooks := .later }
def ViewDefaultsUptoCardSaid : Prop := Claim7.holds Tryd.pinned (.plain (OpenSpec.upto viewDefaultsSpec)) viewDefaultsUptoCard

/-- THE SECOND FORM's CARD OF 'transomlaw07.ViewDeep'. -/
def viewDeepUptoCard : Claim7 := { stood := { row := viewDeepUptoRow, standIns := [], harness := (true, "dd6090d3c7ad70a3bafca3cf26bd936935711194d9888e55362b99bfc2a15f49"), looks := false }, kinds := [], alts := [], laidByText := true, laidKinds := [.data, .pinned], laidTests := true, laidLooks := .later }
def ViewDeepUptoCardSaid : Prop := Claim7.holds Tryd.pinned (.plain (OpenSpec.upto viewDeepSpec)) viewDeepUptoCard
end Rows
end Go.Proofs.YtjeoekggdohhiaaDoor
