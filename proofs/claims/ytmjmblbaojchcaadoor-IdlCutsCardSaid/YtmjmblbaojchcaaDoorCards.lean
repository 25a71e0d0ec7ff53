/-
  DERIVED. GIVEN WITH THE SEED: THE CARDS: each row of YtmjmblbaojchcaaDoorRows.lean that lists a variable, with what it lists TIED to the program's text (the seventh form; the later family's looks); each row that meets fmt, with fmt's text TOLD by the authors' own Lean function (tested against real Go, not proved from fmt's source: count such statements apart). THE CARD IS WHAT COUNTS. Prove the row's statement (the work); the ties are given (YtmjmblbaojchcaaDoorTie.lean); close each card by the builder's one call (the guide's Derived/Test/ToyasCard.lean, 'card_holds'). Laid BY PROGRAM, IN A SANDBOX (cutbox-door.mjs). By AI agents, Wed Nov 11 2026. No macro, syntax, notation, axiom, sorry.
-/
import Derived.Test.YtmjmblbaojchcaaDoorRows
import GoSem.ClaimSeven
namespace Go.Proofs.YtmjmblbaojchcaaDoor
namespace Rows

/-- THE TIED CARD OF 'transomlaw04.IdlPrints'. -/
def idlPrintsCard : Claim7 := { stood := { row := idlPrintsRow, standIns := [], harness := (true, "6eb4b51e7241d643bd949cee9e29ce6f2c2b4c3ccd426b68e7e6401f5f063ad4"), looks := false }, kinds := [], alts := [], laidByText := true, laidKinds := [.data, .pinned], laidTests := true, laidLooks := .later }
def IdlPrintsCardSaid : Prop := Claim7.holds Tryd.pinned (.plain (OpenSpec.ofChange idlPrintsSpec)) idlPrintsCard

/-- THE TIED CARD OF 'transomlaw04.IdlCuts'. -/
def idlCutsCard : Claim7 := { stood := { row := idlCutsRow, standIns := [], harness := (true, "6eb4b51e7241d643bd949cee9e29ce6f2c2b4c3ccd426b68e7e6401f5f063ad4"), looks := false }, kinds := [], alts := [], laidByText := true, laidKinds := [.data, .pinned], laidTests := true, laidLooks := .later }
def IdlCutsCardSaid : Prop := Claim7.holds Tryd.pinned (.plain (OpenSpec.ofChange idlCutsSpec)) idlCutsCard

/-- THE TIED CARD OF 'transomlaw04.IdlJoins'. -/
def idlJoinsCard : Claim7 := { stood := { row := idlJoinsRow, standIns := [], harness := (true, "6eb4b51e7241d643bd949cee9e29ce6f2c2b4c3ccd426b68e7e6401f5f063ad4"), looks := false }, kinds := [], alts := [], laidByText := true, laidKinds := [.data, .pinned], laidTests := true, laidLooks := .later }
def IdlJoinsCardSaid : Prop := Claim7.holds Tryd.pinned (.plain (OpenSpec.ofChange idlJoinsSpec)) idlJoinsCard

/-- THE TIED CARD OF 'transomlaw04.IdlNests'. -/
def idlNestsCard : Claim7 := { stood := { row := idlNestsRow, standIns := [], harness := (true, "6eb4b51e7241d643bd949cee9e29ce6f2c2b4c3ccd426b68e7e6401f5f063ad4"), looks := false }, kinds := [], alts := [], laidByText := true, laidKinds := [.data, .pinned], laidTests := true, laidLooks := .later }
def IdlNestsCardSaid : Prop := Claim7.holds Tryd.pinned (.plain (OpenSpec.ofChange idlNestsSpec)) idlNestsCard

/-- THE SECOND FORM's CARD OF 'transomlaw04.IdlPrints'. -/
def idlPrintsUptoCard : Claim7 := { stood := { row := idlPrintsUptoRow, standIns := [], harness := (true, "6eb4b51e7241d643bd949cee9e29ce6f2c2b4c3ccd426b68e7e6401f5f063ad4"), looks := false }, kinds := [], alts := [], laidByText := true, laidKinds := [.data, .pinned], laidTests := true, laidLooks := .later }
def IdlPrintsUptoCardSaid : Prop := Claim7.holds Tryd.pinned (.plain (OpenSpec.upto idlPrintsSpec)) idlPrintsUptoCard

/-- THE SECOND FORM's CARD OF 'transomlaw04.IdlCuts'. -/
def idlCutsUptoCard : Claim7 := { stood := { row := idlCutsUptoRow, standIns := [], harness := (true, "6eb4b51e7241d643bd949cee9e29ce6f2c2b4c3ccd426b68e7e6401f5f063ad4"), looks := false }, kinds := [], alts := [], laidByText := true, laidKinds := [.data, .pinned], laidTests := true, laidLooks := .later }
def IdlCutsUptoCardSaid : Prop := Claim7.holds Tryd.pinned (.plain (OpenSpec.upto idlCutsSpec)) idlCutsUptoCard

/-- THE SECOND FORM's CARD OF 'transomlaw04.IdlJoins'. -/
def idlJoinsUptoCard : Claim7 := { stood := { row := idlJoinsUptoRow, standIns := [], harness := (true, "6eb4b51e7241d643bd949cee9e29ce6f2c2b4c3ccd426b68e7e6401f5f063ad4"), looks := false }, kinds := [], alts := [], laidByText := true, laidKinds := [.data, .pinned], laidTests := true, laidLooks := .later }
def IdlJoinsUptoCardSaid : Prop := Claim7.holds Tryd.pinned (.plain (OpenSpec.upto idlJoinsSpec)) idlJoinsUptoCard

/-- THE SECOND FORM's CARD OF 'transomlaw04.IdlNests'. -/
def idlNestsUptoCard : Claim7 := { stood := { row := idlNestsUptoRow, standIns := [], harness := (true, "6eb4b51e7241d643bd949cee9e29ce6f2c2b4c3ccd426b68e7e6401f5f063ad4"), looks := false }, kinds := [], alts := [], laidByText := true, laidKinds := [.data, .pinned], laidTests := true, laidLooks := .later }
def IdlNestsUptoCardSaid : Prop := Claim7.holds Tryd.pinned (.plain (OpenSpec.upto idlNestsSpec)) idlNestsUptoCard
end Rows
end Go.Proofs.YtmjmblbaojchcaaDoor
