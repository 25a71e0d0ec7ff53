/-
  DERIVED. GIVEN WITH THE SEED: THE CARDS: each row of YtcbkdohahfjbfaaDoorRows.lean that lists a variable, with what it lists TIED to the program's text (the seventh form; the later family's looks); each row that meets fmt, with fmt's text TOLD by the authors' own Lean function (tested against real Go, not proved from fmt's source: count such statements apart). THE CARD IS WHAT COUNTS. Prove the row's statement (the work); the ties are given (YtcbkdohahfjbfaaDoorTie.lean); close each card by the builder's one call (the guide's Derived/Test/ToyasCard.lean, 'card_holds'). Laid BY PROGRAM, IN A SANDBOX (cutbox-door.mjs). By AI agents, Wed Nov 11 2026. No macro, syntax, notation, axiom, sorry.
-/
import Derived.Test.YtcbkdohahfjbfaaDoorRows
import GoSem.ClaimSeven
namespace Go.Proofs.YtcbkdohahfjbfaaDoor
namespace Rows

/-- THE TIED CARD OF 'transomlaw06.LayoutWords'. -/
def layoutWordsCard : Claim7 := { stood := { row := layoutWordsRow, standIns := [], harness := (true, "3fb993b6e0287e443364e8d16642a24806e702f07190da5f09a38ab9ffccf557"), looks := false }, kinds := [], alts := [], laidByText := true, laidKinds := [.data], laidTests := true, laidLooks := .later }
def LayoutWordsCardSaid : Prop := Claim7.holds Tryd.pinned (.plain (OpenSpec.ofChange layoutWordsSpec)) layoutWordsCard

/-- THE TIED CARD OF 'transomlaw06.LayoutTables'. -/
def layoutTablesCard : Claim7 := { stood := { row := layoutTablesRow, standIns := [], harness := (true, "3fb993b6e0287e443364e8d16642a24806e702f07190da5f09a38ab9ffccf557"), looks := false }, kinds := [], alts := [], laidByText := true, laidKinds := [.data, .data], laidTests := true, laidLooks := .later }
def LayoutTablesCardSaid : Prop := Claim7.holds Tryd.pinned (.plain (OpenSpec.ofChange layoutTablesSpec)) layoutTablesCard

/-- THE TIED CARD OF 'transomlaw06.LayoutRows'. -/
def layoutRowsCard : Claim7 := { stood := { row := layoutRowsRow, standIns := [], harness := (true, "3fb993b6e0287e443364e8d16642a24806e702f07190da5f09a38ab9ffccf557"), looks := false }, kinds := [], alts := [], laidByText := true, laidKinds := [.data], laidTests := true, laidLooks := .later }
def LayoutRowsCardSaid : Prop := Claim7.holds Tryd.pinned (.plain (OpenSpec.ofChange layoutRowsSpec)) layoutRowsCard

/-- THE TIED CARD OF 'transomlaw06.LayoutUnits'. -/
def layoutUnitsCard : Claim7 := { stood := { row := layoutUnitsRow, standIns := [], harness := (true, "3fb993b6e0287e443364e8d16642a24806e702f07190da5f09a38ab9ffccf557"), looks := false }, kinds := [], alts := [], laidByText := true, laidKinds := [.data], laidTests := true, laidLooks := .later }
def LayoutUnitsCardSaid : Prop := Claim7.holds Tryd.pinned (.plain (OpenSpec.ofChange layoutUnitsSpec)) layoutUnitsCard

/-- THE TIED CARD OF 'transomlaw06.LayoutApart'. -/
def layoutApartCard : Claim7 := { stood := { row := layoutApartRow, standIns := [], harness := (true, "3fb993b6e0287e443364e8d16642a24806e702f07190da5f09a38ab9ffccf557"), looks := false }, kinds := [], alts := [], laidByText := true, laidKinds := [.data, .data], laidTests := true, laidLooks := .later }
def LayoutApartCardSaid : Prop := Claim7.holds Tryd.pinned (.plain (OpenSpec.ofChange layoutApartSpec)) layoutApartCard

/-- THE SECOND FORM's CARD OF 'transomlaw06.LayoutWords'. -/
def layoutWordsUptoCard : Claim7 := { stood := { row := layoutWordsUptoRow, standIns := [], harness := (true, "3fb993b6e0287e443364e8d16642a24806e702f07190da5f09a38ab9ffccf557"), looks := false }, kinds := [], alts := [], laidByText := true, laidKinds := [.data], laidTests := true, laidLooks := .later }
def LayoutWordsUptoCardSaid : Prop := Claim7.holds Tryd.pinned (.plain (OpenSpec.upto layoutWordsSpec)) layoutWordsUptoCard

/-- THE SECOND FORM's CARD OF 'transomlaw06.LayoutTables'. -/
def layoutTablesUptoCard : Claim7 := { stood := { row := layoutTablesUptoRow, standIns := [], harness := (true, "3fb993b6e0287e443364e8d16642a24806e702f07190da5f09a38ab9ffccf557"), looks := false }, kinds := [], alts := [], laidByText := true, laidKinds := [.data, .data], laidTests := true, laidLooks := .later }
def LayoutTablesUptoCardSaid : Prop := Claim7.holds Tryd.pinned (.plain (OpenSpec.upto layoutTablesSpec)) layoutTablesUptoCard

/-- THE SECOND FORM's CARD OF 'transomlaw06.LayoutRows'. -/
def layoutRowsUptoCard : Claim7 := { stood := { row := layoutRowsUptoRow, standIns := [], harness := (true, "3fb993b6e0287e443364e8d16642a24806e702f07190da5f09a38ab9ffccf557"), looks := false }, kinds := [], alts := [], laidByText := true, laidKinds := [.data], laidTests := true, laidLooks := .later }
def LayoutRowsUptoCardSaid : Prop := Claim7.holds Tryd.pinned (.plain (OpenSpec.upto layoutRowsSpec)) layoutRowsUptoCard

/-- THE SECOND FORM's CARD OF 'transomlaw06.LayoutUnits'. -/
def layoutUnitsUptoCard : Claim7 := { stood := { row := layoutUnitsUptoRow, standIns := [], harness := (true, "3fb993b6e0287e443364e8d16642a24806e702f07190da5f09a38ab9ffccf557"), looks := false }, kinds := [], alts := [], laidByText := true, laidKinds := [.data], laidTests := true, laidLooks := .later }
def LayoutUnitsUptoCardSaid : Prop := Claim7.holds Tryd.pinned (.plain (OpenSpec.upto layoutUnitsSpec)) layoutUnitsUptoCard

/-- THE SECOND FORM's CARD OF 'transomlaw06.LayoutApart'. -/
def layoutApartUptoCard : Claim7 := { stood := { row := layoutApartUptoRow, standIns := [], harness := (true, "3fb993b6e0287e443364e8d16642a24806e702f07190da5f09a38ab9ffccf557"), looks := false }, kinds := [], alts := [], laidByText := true, laidKinds := [.data, .data], laidTests := true, laidLooks := .later }
def LayoutApartUptoCardSaid : Prop := Claim7.holds Tryd.pinned (.plain (OpenSpec.upto layoutApartSpec)) layoutApartUptoCard
end Rows
end Go.Proofs.YtcbkdohahfjbfaaDoor
