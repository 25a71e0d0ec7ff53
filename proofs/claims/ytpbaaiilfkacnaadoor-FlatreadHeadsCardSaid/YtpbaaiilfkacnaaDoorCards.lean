/-
  DERIVED. GIVEN WITH THE SEED: THE CARDS: each row of YtpbaaiilfkacnaaDoorRows.lean that lists a variable, with what it lists TIED to the program's text (the seventh form; the later family's looks); each row that meets fmt, with fmt's text TOLD by the authors' own Lean function (tested against real Go, not proved from fmt's source: count such statements apart). THE CARD IS WHAT COUNTS. Prove the row's statement (the work); the ties are given (YtpbaaiilfkacnaaDoorTie.lean); close each card by the builder's one call (the guide's Derived/Test/ToyasCard.lean, 'card_holds'). Laid BY PROGRAM, IN A SANDBOX (cutbox-door.mjs). By AI agents, Wed Nov 11 2026. No macro, syntax, notation, axiom, sorry.
-/
import Derived.Test.YtpbaaiilfkacnaaDoorRows
import GoSem.ClaimSeven
namespace Go.Proofs.YtpbaaiilfkacnaaDoor
namespace Rows

/-- THE TIED CARD OF 'transomlaw10.FlatreadTurned'. -/
def flatreadTurnedCard : Claim7 := { stood := { row := flatreadTurnedRow, standIns := [], harness := (true, "dc797584dccf371fa59049600cba0680d5a423f868d945a4fa78dc2555017062"), looks := false }, kinds := [], alts := [], laidByText := true, laidKinds := [.data, .pinned], laidTests := true, laidLooks := .later }
def FlatreadTurnedCardSaid : Prop := Claim7.holds Tryd.pinned (.plain (OpenSpec.ofChange flatreadTurnedSpec)) flatreadTurnedCard

/-- THE TIED CARD OF 'transomlaw10.FlatreadHeads'. -/
def flatreadHeadsCard : Claim7 := { stood := { row := flatreadHeadsRow, standIns := [], harness := (true, "dc797584dccf371fa59049600cba0680d5a423f868d945a4fa78dc2555017062"), looks := false }, kinds := [], alts := [], laidByText := true, laidKinds := [.data, .pinned], laidTests := true, laidLooks := .later }
def FlatreadHeadsCardSaid : Prop := Claim7.holds Tryd.pinned (.plain (OpenSpec.ofChange flatreadHeadsSpec)) flatreadHeadsCard

/-- THE TIED CARD OF 'transomlaw11.FlatwriteMeters'. -/
def flatwriteMetersCard : Claim7 := { stood := { row := flatwriteMetersRow, standIns := [], harness := (true, "dc797584dccf371fa59049600cba0680d5a423f868d945a4fa78dc2555017062"), looks := false }, kinds := [], alts := [], laidByText := true, laidKinds := [.data], laidTests := true, laidLooks := .later }
def FlatwriteMetersCardSaid : Prop := Claim7.holds Tryd.pinned (.plain (OpenSpec.ofChange flatwriteMetersSpec)) flatwriteMetersCard

/-- THE TIED CARD OF 'transomlaw06.LayoutWords'. -/
def layoutWordsCard : Claim7 := { stood := { row := layoutWordsRow, standIns := [], harness := (true, "dc797584dccf371fa59049600cba0680d5a423f868d945a4fa78dc2555017062"), looks := false }, kinds := [], alts := [], laidByText := true, laidKinds := [.data], laidTests := true, laidLooks := .later }
def LayoutWordsCardSaid : Prop := Claim7.holds Tryd.pinned (.plain (OpenSpec.ofChange layoutWordsSpec)) layoutWordsCard

/-- THE TIED CARD OF 'transomlaw07.ViewFits'. -/
def viewFitsCard : Claim7 := { stood := { row := viewFitsRow, standIns := [], harness := (true, "dc797584dccf371fa59049600cba0680d5a423f868d945a4fa78dc2555017062"), looks := false }, kinds := [], alts := [], laidByText := true, laidKinds := [.data, .pinned], laidTests := true, laidLooks := .later }
def ViewFitsCardSaid : Prop := Claim7.holds Tryd.pinned (.plain (OpenSpec.ofChange viewFitsSpec)) viewFitsCard

/-- THE TIED CARD OF 'transomlaw07.ViewDefaults'. -/
def viewDefaultsCard : Claim7 := { stood := { row := viewDefaultsRow, standIns := [], harness := (true, "dc797584dccf371fa59049600cba0680d5a423f868d945a4fa78dc2555017062"), looks := false }, kinds := [], alts := [], laidByText := true, laidKinds := [.data, .pinned], laidTests := true, laidLooks := .later }
def ViewDefaultsCardSaid : Prop := Claim7.holds Tryd.pinned (.plain (OpenSpec.ofChange viewDefaultsSpec)) viewDefaultsCard

/-- THE SECOND FORM's CARD OF 'transomlaw10.FlatreadTurned'. -/
def flatreadTurnedUptoCard : Claim7 := { stood := { row := flatreadTurnedUptoRow, standIns := [], harness := (true, "dc797584dccf371fa59049600cba0680d5a423f868d945a4fa78dc2555017062"), looks := false }, kinds := [], alts := [], laidByText := true, laidKinds := [.data, .pinned], laidTests := true, laidLooks := .later }
def FlatreadTurnedUptoCardSaid : Prop := Claim7.holds Tryd.pinned (.plain (OpenSpec.upto flatreadTurnedSpec)) flatreadTurnedUptoCard

/-- THE SECOND FORM's CARD OF 'transomlaw10.FlatreadHeads'. -/
def flatreadHeadsUptoCard : Claim7 := { stood := { row := flatreadHeadsUptoRow, standIns := [], harness := (true, "dc797584dccf371fa59049600cba0680d5a423f868d945a4fa78dc2555017062"), looks := false }, kinds := [], alts := [], laidByText := true, laidKinds := [.data, .pinned], laidTests := true, laidLooks := .later }
def FlatreadHeadsUptoCardSaid : Prop := Claim7.holds Tryd.pinned (.plain (OpenSpec.upto flatreadHeadsSpec)) flatreadHeadsUptoCard

/-- THE SECOND FORM's CARD OF 'transomlaw11.FlatwriteMeters'. -/
def flatwriteMetersUptoCard : Claim7 := { stood := { row := flatwriteMetersUptoRow, standIns := [], harness := (true, "dc797584dccf371fa59049600cba0680d5a423f868d945a4fa78dc2555017062"), looks := false }, kinds := [], alts := [], laidByText := true, laidKinds := [.data], laidTests := true, laidLooks := .later }
def FlatwriteMetersUptoCardSaid : Prop := Claim7.holds Tryd.pinned (.plain (OpenSpec.upto flatwriteMetersSpec)) flatwriteMetersUptoCard

/-- THE SECOND FORM's CARD OF 'transomlaw06.LayoutWords'. -/
def layoutWordsUptoCard : Claim7 := { stood := { row := layoutWordsUptoRow, standIns := [], harness := (true, "dc797584dccf371fa59049600cba0680d5a423f868d945a4fa78dc2555017062"), looks := false }, kinds := [], alts := [], laidByText := true, laidKinds := [.data], laidTests := true, laidLooks := .later }
def LayoutWordsUptoCardSaid : Prop := Claim7.holds Tryd.pinned (.plain (OpenSpec.upto layoutWordsSpec)) layoutWordsUptoCard

/-- THE SECOND FORM's CARD OF 'transomlaw07.ViewFits'. -/
def viewFitsUptoCard : Claim7 := { stood := { row := viewFitsUptoRow, standIns := [], harness := (true, "dc797584dccf371fa59049600cba0680d5a423f868d945a4fa78dc2555017062"), looks := false }, kinds := [], alts := [], laidByText := true, laidKinds := [.data, .pinned], laidTests := true, laidLooks := .later }
def ViewFitsUptoCardSaid : Prop := Claim7.holds Tryd.pinned (.plain (OpenSpec.upto viewFitsSpec)) viewFitsUptoCard

/-- THE SECOND FORM's CARD OF 'transomlaw07.ViewDefaults'. -/
def viewDefaultsUptoCard : Claim7 := { stood := { row := viewDefaultsUptoRow, standIns := [], harness := (true, "dc797584dccf371fa59049600cba0680d5a423f868d945a4fa78dc2555017062"), looks := false }, kinds := [], alts := [], laidByText := true, laidKinds := [.data, .pinned], laidTests := true, laidLooks := .later }
def ViewDefaultsUptoCardSaid : Prop := Claim7.holds Tryd.pinned (.plain (OpenSpec.upto viewDefaultsSpec)) viewDefaultsUptoCard
end Rows
end Go.Proofs.YtpbaaiilfkacnaaDoor
