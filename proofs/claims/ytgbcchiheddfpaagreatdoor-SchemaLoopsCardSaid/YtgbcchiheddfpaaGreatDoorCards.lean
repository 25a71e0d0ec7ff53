/-
  DERIVED. GIVEN WITH THE SEED: THE CARDS: each row of YtgbcchiheddfpaaGreatDoorRows.lean that lists a variable, with what it lists TIED to the program's text (the seventh form; the later family's looks); each row that meets fmt, with fmt's text TOLD by the authors' own Lean function (tested against real Go, not proved from fmt's source: count such statements apart). THE CARD IS WHAT COUNTS. Prove the row's statement (the work); the ties are given (YtgbcchiheddfpaaGreatDoorTie.lean); close each card by the builder's one call (the guide's Derived/Test/ToyasCard.lean, 'card_holds'). Laid BY PROGRAM, IN A SANDBOX (cutbox-door.mjs). By AI agents, Wed Nov 11 2026. No macro, syntax, notation, axiom, sorry.
-/
import Derived.Test.YtgbcchiheddfpaaGreatDoorRows
import GoSem.ClaimSeven
namespace Go.Proofs.YtgbcchiheddfpaaGreatDoor
namespace Rows

/-- THE TIED CARD OF 'transomlaw12.SbeReads'. -/
def sbeReadsCard : Claim7 := { stood := { row := sbeReadsRow, standIns := [], harness := (true, "fa044e7635e838b4c8e5111bf224cddb5021ed75616730b1daeb4b41f777eb2a"), looks := true }, kinds := [], alts := [], laidByText := true, laidKinds := [.data, .pinned], laidTests := true, laidLooks := .later }
def SbeReadsCardSaid : Prop := Claim7.holds Tryz.pinned (.plain (OpenSpec.ofChange sbeReadsSpec)) sbeReadsCard

/-- THE TIED CARD OF 'transomlaw12.SbeTurned'. -/
def sbeTurnedCard : Claim7 := { stood := { row := sbeTurnedRow, standIns := [], harness := (true, "fa044e7635e838b4c8e5111bf224cddb5021ed75616730b1daeb4b41f777eb2a"), looks := true }, kinds := [], alts := [], laidByText := true, laidKinds := [.data, .pinned], laidTests := true, laidLooks := .later }
def SbeTurnedCardSaid : Prop := Claim7.holds Tryz.pinned (.plain (OpenSpec.ofChange sbeTurnedSpec)) sbeTurnedCard

/-- THE TIED CARD OF 'transomlaw12.SbeWrites'. -/
def sbeWritesCard : Claim7 := { stood := { row := sbeWritesRow, standIns := [], harness := (true, "fa044e7635e838b4c8e5111bf224cddb5021ed75616730b1daeb4b41f777eb2a"), looks := true }, kinds := [], alts := [], laidByText := true, laidKinds := [.data, .pinned], laidTests := true, laidLooks := .later }
def SbeWritesCardSaid : Prop := Claim7.holds Tryz.pinned (.plain (OpenSpec.ofChange sbeWritesSpec)) sbeWritesCard

/-- THE TIED CARD OF 'transomlaw12.SbeOnce'. -/
def sbeOnceCard : Claim7 := { stood := { row := sbeOnceRow, standIns := [], harness := (true, "fa044e7635e838b4c8e5111bf224cddb5021ed75616730b1daeb4b41f777eb2a"), looks := true }, kinds := [], alts := [], laidByText := true, laidKinds := [.data, .pinned], laidTests := true, laidLooks := .later }
def SbeOnceCardSaid : Prop := Claim7.holds Tryz.pinned (.plain (OpenSpec.ofChange sbeOnceSpec)) sbeOnceCard

/-- THE TIED CARD OF 'transomlaw12.SbeCuts'. -/
def sbeCutsCard : Claim7 := { stood := { row := sbeCutsRow, standIns := [], harness := (true, "fa044e7635e838b4c8e5111bf224cddb5021ed75616730b1daeb4b41f777eb2a"), looks := true }, kinds := [], alts := [], laidByText := true, laidKinds := [.data, .pinned], laidTests := true, laidLooks := .later }
def SbeCutsCardSaid : Prop := Claim7.holds Tryz.pinned (.plain (OpenSpec.ofChange sbeCutsSpec)) sbeCutsCard

/-- THE TIED CARD OF 'transomlaw12.SbeBudgets'. -/
def sbeBudgetsCard : Claim7 := { stood := { row := sbeBudgetsRow, standIns := [], harness := (true, "fa044e7635e838b4c8e5111bf224cddb5021ed75616730b1daeb4b41f777eb2a"), looks := true }, kinds := [], alts := [], laidByText := true, laidKinds := [.data, .pinned], laidTests := true, laidLooks := .later }
def SbeBudgetsCardSaid : Prop := Claim7.holds Tryz.pinned (.plain (OpenSpec.ofChange sbeBudgetsSpec)) sbeBudgetsCard

/-- THE TIED CARD OF 'transomlaw12.SbeDeep'. -/
def sbeDeepCard : Claim7 := { stood := { row := sbeDeepRow, standIns := [], harness := (true, "fa044e7635e838b4c8e5111bf224cddb5021ed75616730b1daeb4b41f777eb2a"), looks := true }, kinds := [], alts := [], laidByText := true, laidKinds := [.data, .pinned], laidTests := true, laidLooks := .later }
def SbeDeepCardSaid : Prop := Claim7.holds Tryz.pinned (.plain (OpenSpec.ofChange sbeDeepSpec)) sbeDeepCard

/-- THE TIED CARD OF 'transomlaw05.SchemaLoops'. -/
def schemaLoopsCard : Claim7 := { stood := { row := schemaLoopsRow, standIns := [], harness := (true, "fa044e7635e838b4c8e5111bf224cddb5021ed75616730b1daeb4b41f777eb2a"), looks := true }, kinds := [], alts := [], laidByText := true, laidKinds := [.data, .data, .data, .data, .sentinel, .sentinel, .pinned], laidTests := true, laidLooks := .later }
def SchemaLoopsCardSaid : Prop := Claim7.holds Tryz.pinned (.plain (OpenSpec.ofChange schemaLoopsSpec)) schemaLoopsCard

/-- THE TIED CARD OF 'transomlaw11.FlatwriteOnce'. -/
def flatwriteOnceCard : Claim7 := { stood := { row := flatwriteOnceRow, standIns := [], harness := (true, "fa044e7635e838b4c8e5111bf224cddb5021ed75616730b1daeb4b41f777eb2a"), looks := true }, kinds := [], alts := [], laidByText := true, laidKinds := [.data, .data, .pinned], laidTests := true, laidLooks := .later }
def FlatwriteOnceCardSaid : Prop := Claim7.holds Tryz.pinned (.plain (OpenSpec.ofChange flatwriteOnceSpec)) flatwriteOnceCard

/-- THE SECOND FORM's CARD OF 'transomlaw12.SbeReads'. -/
def sbeReadsUptoCard : Claim7 := { stood := { row := sbeReadsUptoRow, standIns := [], harness := (true, "fa044e7635e838b4c8e5111bf224cddb5021ed75616730b1daeb4b41f777eb2a"), looks := true }, kinds := [], alts := [], laidByText := true, laidKinds := [.data, .pinned], laidTests := true, laidLooks := .later }
def SbeReadsUptoCardSaid : Prop := Claim7.holds Tryz.pinned (.plain (OpenSpec.upto sbeReadsSpec)) sbeReadsUptoCard

/-- THE SECOND FORM's CARD OF 'transomlaw12.SbeTurned'. -/
def sbeTurnedUptoCard : Claim7 := { stood := { row := sbeTurnedUptoRow, standIns := [], harness := (true, "fa044e7635e838b4c8e5111bf224cddb5021ed75616730b1daeb4b41f777eb2a"), looks := true }, kinds := [], alts := [], laidByText := true, laidKinds := [.data, .pinned], laidTests := true, laidLooks := .later }
def SbeTurnedUptoCardSaid : Prop := Claim7.holds Tryz.pinned (.plain (OpenSpec.upto sbeTurnedSpec)) sbeTurnedUptoCard

/-- THE SECOND FORM's CARD OF 'transomlaw12.SbeWrites'. -/
def sbeWritesUptoCard : Claim7 := { stood := { row := sbeWritesUptoRow, standIns := [], harness := (true, "fa044e7635e838b4c8e5111bf224cddb5021ed75616730b1daeb4b41f777eb2a"), looks := true }, kinds := [], alts := [], laidByText := true, laidKinds := [.data, .pinned], laidTests := true, laidLooks := .later }
def SbeWritesUptoCardSaid : Prop := Claim7.holds Tryz.pinned (.plain (OpenSpec.upto sbeWritesSpec)) sbeWritesUptoCard

/-- THE SECOND FORM's CARD OF 'transomlaw12.SbeOnce'. -/
def sbeOnceUptoCard : Claim7 := { stood := { row := sbeOnceUptoRow, standIns := [], harness := (true, "fa044e7635e838b4c8e5111bf224cddb5021ed75616730b1daeb4b41f777eb2a"), looks := true }, kinds := [], alts := [], laidByText := true, laidKinds := [.data, .pinned], laidTests := true, laidLooks := .later }
def SbeOnceUptoCardSaid : Prop := Claim7.holds Tryz.pinned (.plain (OpenSpec.upto sbeOnceSpec)) sbeOnceUptoCard

/-- THE SECOND FORM's CARD OF 'transomlaw12.SbeCuts'. -/
def sbeCutsUptoCard : Claim7 := { stood := { row := sbeCutsUptoRow, standIns := [], harness := (true, "fa044e7635e838b4c8e5111bf224cddb5021ed75616730b1daeb4b41f777eb2a"), looks := true }, kinds := [], alts := [], laidByText := true, laidKinds := [.data, .pinned], laidTests := true, laidLooks := .later }
def SbeCutsUptoCardSaid : Prop := Claim7.holds Tryz.pinned (.plain (OpenSpec.upto sbeCutsSpec)) sbeCutsUptoCard

/-- THE SECOND FORM's CARD OF 'transomlaw12.SbeBudgets'. -/
def sbeBudgetsUptoCard : Claim7 := { stood := { row := sbeBudgetsUptoRow, standIns := [], harness := (true, "fa044e7635e838b4c8e5111bf224cddb5021ed75616730b1daeb4b41f777eb2a"), looks := true }, kinds := [], alts := [], laidByText := true, laidKinds := [.data, .pinned], laidTests := true, laidLooks := .later }
def SbeBudgetsUptoCardSaid : Prop := Claim7.holds Tryz.pinned (.plain (OpenSpec.upto sbeBudgetsSpec)) sbeBudgetsUptoCard

/-- THE SECOND FORM's CARD OF 'transomlaw12.SbeDeep'. -/
def sbeDeepUptoCard : Claim7 := { stood := { row := sbeDeepUptoRow, standIns := [], harness := (true, "fa044e7635e838b4c8e5111bf224cddb5021ed75616730b1daeb4b41f777eb2a"), looks := true }, kinds := [], alts := [], laidByText := true, laidKinds := [.data, .pinned], laidTests := true, laidLooks := .later }
def SbeDeepUptoCardSaid : Prop := Claim7.holds Tryz.pinned (.plain (OpenSpec.upto sbeDeepSpec)) sbeDeepUptoCard

/-- THE SECOND FORM's CARD OF 'transomlaw05.SchemaLoops'. -/
def schemaLoopsUptoCard : Claim7 := { stood := { row := schemaLoopsUptoRow, standIns := [], harness := (true, "fa044e7635e838b4c8e5111bf224cddb5021ed75616730b1daeb4b41f777eb2a"), looks := true }, kinds := [], alts := [], laidByText := true, laidKinds := [.data, .data, .data, .data, .sentinel, .sentinel, .pinned], laidTests := true, laidLooks := .later }
def SchemaLoopsUptoCardSaid : Prop := Claim7.holds Tryz.pinned (.plain (OpenSpec.upto schemaLoopsSpec)) schemaLoopsUptoCard

/-- THE SECOND FORM's CARD OF 'transomlaw11.FlatwriteOnce'. -/
def flatwriteOnceUptoCard : Claim7 := { stood := { row := flatwriteOnceUptoRow, standIns := [], harness := (true, "fa044e7635e838b4c8e5111bf224cddb5021ed75616730b1daeb4b41f777eb2a"), looks := true }, kinds := [], alts := [], laidByText := true, laidKinds := [.data, .data, .pinned], laidTests := true, laidLooks := .later }
def FlatwriteOnceUptoCardSaid : Prop := Claim7.holds Tryz.pinned (.plain (OpenSpec.upto flatwriteOnceSpec)) flatwriteOnceUptoCard
end Rows
end Go.Proofs.YtgbcchiheddfpaaGreatDoor
