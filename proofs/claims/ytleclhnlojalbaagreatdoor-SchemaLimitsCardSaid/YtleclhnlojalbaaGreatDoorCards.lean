/-
  DERIVED. GIVEN WITH THE SEED: THE CARDS: each row of YtleclhnlojalbaaGreatDoorRows.lean that lists a variable, with what it lists TIED to the program's text (the seventh form; the later family's looks); each row that meets fmt, with fmt's text TOLD by the authors' own Lean function (tested against real Go, not proved from fmt's source: count such statements apart). THE CARD IS WHAT COUNTS. Prove the row's statement (the work); the ties are given (YtleclhnlojalbaaGreatDoorTie.lean); close each card by the builder's one call (the guide's Derived/Test/ToyasCard.lean, 'card_holds'). Laid BY PROGRAM, IN A SANDBOX (cutbox-door.mjs). By AI agents, Wed Nov 11 2026. No macro, syntax, notation, axiom, sorry.
-/
import Derived.Test.YtleclhnlojalbaaGreatDoorRows
import GoSem.ClaimSeven
namespace Go.Proofs.YtleclhnlojalbaaGreatDoor
namespace Rows

/-- THE TIED CARD OF 'transomlaw05.SchemaReads'. -/
def schemaReadsCard : Claim7 := { stood := { row := schemaReadsRow, standIns := [], harness := (true, "386af96aa3915da43a99f22c527f50ccd4ad4dc44b83d069a445ecb165421eba"), looks := true }, kinds := [], alts := [], laidByText := true, laidKinds := [.data, .data, .data, .data, .sentinel, .sentinel, .pinned], laidTests := true, laidLooks := .later }
def SchemaReadsCardSaid : Prop := Claim7.holds Tryz.pinned (.plain (OpenSpec.ofChange schemaReadsSpec)) schemaReadsCard

/-- THE TIED CARD OF 'transomlaw05.SchemaWords'. -/
def schemaWordsCard : Claim7 := { stood := { row := schemaWordsRow, standIns := [], harness := (true, "386af96aa3915da43a99f22c527f50ccd4ad4dc44b83d069a445ecb165421eba"), looks := true }, kinds := [], alts := [], laidByText := true, laidKinds := [.data, .data, .data, .data, .sentinel, .sentinel, .pinned], laidTests := true, laidLooks := .later }
def SchemaWordsCardSaid : Prop := Claim7.holds Tryz.pinned (.plain (OpenSpec.ofChange schemaWordsSpec)) schemaWordsCard

/-- THE TIED CARD OF 'transomlaw05.SchemaPrints'. -/
def schemaPrintsCard : Claim7 := { stood := { row := schemaPrintsRow, standIns := [], harness := (true, "386af96aa3915da43a99f22c527f50ccd4ad4dc44b83d069a445ecb165421eba"), looks := true }, kinds := [], alts := [], laidByText := true, laidKinds := [.data, .data, .data, .data, .sentinel, .sentinel, .pinned], laidTests := true, laidLooks := .later }
def SchemaPrintsCardSaid : Prop := Claim7.holds Tryz.pinned (.plain (OpenSpec.ofChange schemaPrintsSpec)) schemaPrintsCard

/-- THE TIED CARD OF 'transomlaw05.SchemaChecks'. -/
def schemaChecksCard : Claim7 := { stood := { row := schemaChecksRow, standIns := [], harness := (true, "386af96aa3915da43a99f22c527f50ccd4ad4dc44b83d069a445ecb165421eba"), looks := true }, kinds := [], alts := [], laidByText := true, laidKinds := [.data, .data, .data, .data, .sentinel, .sentinel, .pinned], laidTests := true, laidLooks := .later }
def SchemaChecksCardSaid : Prop := Claim7.holds Tryz.pinned (.plain (OpenSpec.ofChange schemaChecksSpec)) schemaChecksCard

/-- THE TIED CARD OF 'transomlaw05.SchemaLoops'. -/
def schemaLoopsCard : Claim7 := { stood := { row := schemaLoopsRow, standIns := [], harness := (true, "386af96aa3915da43a99f22c527f50ccd4ad4dc44b83d069a445ecb165421eba"), looks := true }, kinds := [], alts := [], laidByText := true, laidKinds := [.data, .data, .data, .data, .sentinel, .sentinel, .pinned], laidTests := true, laidLooks := .later }
def SchemaLoopsCardSaid : Prop := Claim7.holds Tryz.pinned (.plain (OpenSpec.ofChange schemaLoopsSpec)) schemaLoopsCard

/-- THE TIED CARD OF 'transomlaw05.SchemaLimits'. -/
def schemaLimitsCard : Claim7 := { stood := { row := schemaLimitsRow, standIns := [], harness := (true, "386af96aa3915da43a99f22c527f50ccd4ad4dc44b83d069a445ecb165421eba"), looks := true }, kinds := [], alts := [], laidByText := true, laidKinds := [.data, .data, .data, .data, .sentinel, .sentinel, .pinned], laidTests := true, laidLooks := .later }
def SchemaLimitsCardSaid : Prop := Claim7.holds Tryz.pinned (.plain (OpenSpec.ofChange schemaLimitsSpec)) schemaLimitsCard

/-- THE SECOND FORM's CARD OF 'transomlaw05.SchemaReads'. -/
def schemaReadsUptoCard : Claim7 := { stood := { row := schemaReadsUptoRow, standIns := [], harness := (true, "386af96aa3915da43a99f22c527f50ccd4ad4dc44b83d069a445ecb165421eba"), looks := true }, kinds := [], alts := [], laidByText := true, laidKinds := [.data, .data, .data, .data, .sentinel, .sentinel, .pinned], laidTests := true, laidLooks := .later }
def SchemaReadsUptoCardSaid : Prop := Claim7.holds Tryz.pinned (.plain (OpenSpec.upto schemaReadsSpec)) schemaReadsUptoCard

/-- THE SECOND FORM's CARD OF 'transomlaw05.SchemaWords'. -/
def schemaWordsUptoCard : Claim7 := { stood := { row := schemaWordsUptoRow, standIns := [], harness := (true, "386af96aa3915da43a99f22c527f50ccd4ad4dc44b83d069a445ecb165421eba"), looks := true }, kinds := [], alts := [], laidByText := true, laidKinds := [.data, .data, .data, .data, .sentinel, .sentinel, .pinned], laidTests := true, laidLooks := .later }
def SchemaWordsUptoCardSaid : Prop := Claim7.holds Tryz.pinned (.plain (OpenSpec.upto schemaWordsSpec)) schemaWordsUptoCard

/-- THE SECOND FORM's CARD OF 'transomlaw05.SchemaPrints'. -/
def schemaPrintsUptoCard : Claim7 := { stood := { row := schemaPrintsUptoRow, standIns := [], harness := (true, "386af96aa3915da43a99f22c527f50ccd4ad4dc44b83d069a445ecb165421eba"), looks := true }, kinds := [], alts := [], laidByText := true, laidKinds := [.data, .data, .data, .data, .sentinel, .sentinel, .pinned], laidTests := true, laidLooks := .later }
def SchemaPrintsUptoCardSaid : Prop := Claim7.holds Tryz.pinned (.plain (OpenSpec.upto schemaPrintsSpec)) schemaPrintsUptoCard

/-- THE SECOND FORM's CARD OF 'transomlaw05.SchemaChecks'. -/
def schemaChecksUptoCard : Claim7 := { stood := { row := schemaChecksUptoRow, standIns := [], harness := (true, "386af96aa3915da43a99f22c527f50ccd4ad4dc44b83d069a445ecb165421eba"), looks := true }, kinds := [], alts := [], laidByText := true, laidKinds := [.data, .data, .data, .data, .sentinel, .sentinel, .pinned], laidTests := true, laidLooks := .later }
def SchemaChecksUptoCardSaid : Prop := Claim7.holds Tryz.pinned (.plain (OpenSpec.upto schemaChecksSpec)) schemaChecksUptoCard

/-- THE SECOND FORM's CARD OF 'transomlaw05.SchemaLoops'. -/
def schemaLoopsUptoCard : Claim7 := { stood := { row := schemaLoopsUptoRow, standIns := [], harness := (true, "386af96aa3915da43a99f22c527f50ccd4ad4dc44b83d069a445ecb165421eba"), looks := true }, kinds := [], alts := [], laidByText := true, laidKinds := [.data, .data, .data, .data, .sentinel, .sentinel, .pinned], laidTests := true, laidLooks := .later }
def SchemaLoopsUptoCardSaid : Prop := Claim7.holds Tryz.pinned (.plain (OpenSpec.upto schemaLoopsSpec)) schemaLoopsUptoCard

/-- THE SECOND FORM's CARD OF 'transomlaw05.SchemaLimits'. -/
def schemaLimitsUptoCard : Claim7 := { stood := { row := schemaLimitsUptoRow, standIns := [], harness := (true, "386af96aa3915da43a99f22c527f50ccd4ad4dc44b83d069a445ecb165421eba"), looks := true }, kinds := [], alts := [], laidByText := true, laidKinds := [.data, .data, .data, .data, .sentinel, .sentinel, .pinned], laidTests := true, laidLooks := .later }
def SchemaLimitsUptoCardSaid : Prop := Claim7.holds Tryz.pinned (.plain (OpenSpec.upto schemaLimitsSpec)) schemaLimitsUptoCard
end Rows
end Go.Proofs.YtleclhnlojalbaaGreatDoor
