/-
  DERIVED. GIVEN WITH THE SEED: THE CARDS: each row of YtdlfndjgncdgfaaGreatDoorRows.lean that lists a variable, with what it lists TIED to the program's text (the seventh form; the later family's looks); each row that meets fmt, with fmt's text TOLD by the authors' own Lean function (tested against real Go, not proved from fmt's source: count such statements apart). THE CARD IS WHAT COUNTS. Prove the row's statement (the work); the ties are given (YtdlfndjgncdgfaaGreatDoorTie.lean); close each card by the builder's one call (the guide's Derived/Test/ToyasCard.lean, 'card_holds'). Laid BY PROGRAM, IN A SANDBOX (cutbox-door.mjs). By AI agents, Wed Nov 11 2026. No macro, syntax, notation, axiom, sorry.
-/
import Derived.Test.YtdlfndjgncdgfaaGreatDoorRows
import GoSem.ClaimSeven
namespace Go.Proofs.YtdlfndjgncdgfaaGreatDoor
namespace Rows

/-- THE TIED CARD OF 'transomlaw05.SchemaPrints'. -/
def schemaPrintsCard : Claim7 := { stood := { row := schemaPrintsRow, standIns := [], harness := (true, "f53a4b25e757ec7b66f536f6a32619a0bf5dfe2f4602d1a3f2d83e07bd20ca45"), looks := true }, kinds := [], alts := [], laidByText := true, laidKinds := [.data, .data, .data, .data, .sentinel, .sentinel, .pinned], laidTests := true, laidLooks := .later }
def SchemaPrintsCardSaid : Prop := Claim7.holds Tryz.pinned (.plain (OpenSpec.ofChange schemaPrintsSpec)) schemaPrintsCard

/-- THE TIED CARD OF 'transomlaw05.SchemaChecks'. -/
def schemaChecksCard : Claim7 := { stood := { row := schemaChecksRow, standIns := [], harness := (true, "f53a4b25e757ec7b66f536f6a32619a0bf5dfe2f4602d1a3f2d83e07bd20ca45"), looks := true }, kinds := [], alts := [], laidByText := true, laidKinds := [.data, .data, .data, .data, .sentinel, .sentinel, .pinned], laidTests := true, laidLooks := .later }
def SchemaChecksCardSaid : Prop := Claim7.holds Tryz.pinned (.plain (OpenSpec.ofChange schemaChecksSpec)) schemaChecksCard

/-- THE TIED CARD OF 'transomlaw05.SchemaLoops'. -/
def schemaLoopsCard : Claim7 := { stood := { row := schemaLoopsRow, standIns := [], harness := (true, "f53a4b25e757ec7b66f536f6a32619a0bf5dfe2f4602d1a3f2d83e07bd20ca45"), looks := true }, kinds := [], alts := [], laidByText := true, laidKinds := [.data, .data, .data, .data, .sentinel, .sentinel, .pinned], laidTests := true, laidLooks := .later }
def SchemaLoopsCardSaid : Prop := Claim7.holds Tryz.pinned (.plain (OpenSpec.ofChange schemaLoopsSpec)) schemaLoopsCard

/-- THE SECOND FORM's CARD OF 'transomlaw05.SchemaPrints'. -/
def schemaPrintsUptoCard : Claim7 := { stood := { row := schemaPrintsUptoRow, standIns := [], harness := (true, "f53a4b25e757ec7b66f536f6a32619a0bf5dfe2f4602d1a3f2d83e07bd20ca45"), looks := true }, kinds := [], alts := [], laidByText := true, laidKinds := [.data, .data, .data, .data, .sentinel, .sentinel, .pinned], laidTests := true, laidLooks := .later }
def SchemaPrintsUptoCardSaid : Prop := Claim7.holds Tryz.pinned (.plain (OpenSpec.upto schemaPrintsSpec)) schemaPrintsUptoCard

/-- THE SECOND FORM's CARD OF 'transomlaw05.SchemaChecks'. -/
def schemaChecksUptoCard : Claim7 := { stood := { row := schemaChecksUptoRow, standIns := [], harness := (true, "f53a4b25e757ec7b66f536f6a32619a0bf5dfe2f4602d1a3f2d83e07bd20ca45"), looks := true }, kinds := [], alts := [], laidByText := true, laidKinds := [.data, .data, .data, .data, .sentinel, .sentinel, .pinned], laidTests := true, laidLooks := .later }
def SchemaChecksUptoCardSaid : Prop := Claim7.holds Tryz.pinned (.plain (OpenSpec.upto schemaChecksSpec)) schemaChecksUptoCard

/-- THE SECOND FORM's CARD OF 'transomlaw05.SchemaLoops'. -/
def schemaLoopsUptoCard : Claim7 := { stood := { row := schemaLoopsUptoRow, standIns := [], harness := (true, "f53a4b25e757ec7b66f536f6a32619a0bf5dfe2f4602d1a3f2d83e07bd20ca45"), looks := true }, kinds := [], alts := [], laidByText := true, laidKinds := [.data, .data, .data, .data, .sentinel, .sentinel, .pinned], laidTests := true, laidLooks := .later }
def SchemaLoopsUptoCardSaid : Prop := Claim7.holds Tryz.pinned (.plain (OpenSpec.upto schemaLoopsSpec)) schemaLoopsUptoCard
end Rows
end Go.Proofs.YtdlfndjgncdgfaaGreatDoor
