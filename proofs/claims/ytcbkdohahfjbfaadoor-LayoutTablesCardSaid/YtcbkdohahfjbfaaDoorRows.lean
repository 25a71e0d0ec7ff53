/-
  NARROWER THAN 'FOR EVERY INPUT', by the rows' own cells (each row's printed sentence says how): LayoutWords: laid · LayoutTables: laid · LayoutRows: laid · LayoutUnits: laid · LayoutApart: laid.
  DERIVED. THE GIVEN ROWS OF THIS SEAT. 5 by the template 'for every input the law returns true; each argument reads behind the call as it read before'; 0 by the template 'total and deterministic' (their statements: YtcbkdohahfjbfaaDoorTotals.lean).
  GIVEN WITH THE SEED: the statements are not yours to turn. If you find one false, say at which input.
  Laid BY PROGRAM, IN A SANDBOX (cutbox-rows.mjs): the forced cells as the released guide's own fill.sh prints them over the translation ed83cf3764f4f450… (all of the seat's roots in one cut). By AI agents, Wed Nov 11 2026. No macro, syntax, notation, axiom, sorry.
-/
import Derived.Test.YtcbkdohahfjbfaaDoorChecked
import GoSem.Claim
import GoSem.ClaimJoined
import GoSem.ClaimMapViews
import Derived.JoinedTies
import Derived.KernelRfl
namespace Go.Proofs.YtcbkdohahfjbfaaDoor
/- THE CELL 'sum', in the pinned program and in every row, IS THE sha256 OF THE DUMP (.gsa) THAT YtcbkdohahfjbfaaDoorProg.lean LOADS. Nothing in Lean hashes anything: it is a label: what it is worth is what the hold of that sum in a sandbox is worth. -/
noncomputable def Tryd.pinned : Pinned := { name := "ytcbkdohahfjbfaadoor", sum := "ed83cf3764f4f450703f10820b579b10d6d762ed32b4dd0a116c4d20633515f8", checked := Tryd.checked }
namespace Rows
def none {H : Type} : Left H := { results := [], args := [] }

/- WHAT THE LISTED PACKAGE-LEVEL VARIABLES READ AS WHEN THE CALL BEGINS. Each datum BY PROGRAM (the guide's laid-datum.mjs) off the statement by which the dump's own 'gosem.cut.vars' lays the variable. In a bare row this is a premise. The card (YtcbkdohahfjbfaaDoorCards.lean) ties it to the program's text. -/
def laid_transom_layout_widths {H : Type} : DataW H := .agg [.lit (.int .i64 64), .lit (.int .i64 32), .lit (.int .i64 16), .lit (.int .i64 8), .lit (.int .i64 1)]
def laid_transom_layout_inlines {H : Type} : DataW H := .agg [.lit (.int .i64 8), .lit (.int .i64 4), .lit (.int .i64 2), .lit (.int .i64 1)]

/-- 'transomlaw06.LayoutWords': WHATEVER THE INPUT: true; the input reads as it did. -/
def layoutWordsSpec : ChangeSpec := { name := "layoutWords", fn := fun _ => fun
  | [d1, d2] => { results := [.lit (.bool true)], args := [d1, d2] }
  | _ => none }
def layoutWordsRow : OpenClaim := { program := "ytcbkdohahfjbfaadoor", sum := "ed83cf3764f4f450703f10820b579b10d6d762ed32b4dd0a116c4d20633515f8", func := "transom/transomlaw06.LayoutWords", spec := "layoutWords", unfollowed := true, recurses := true, named := ["transom/layout.widths"], apart := false, laid := [("transom/layout.widths", laid_transom_layout_widths)] }
def LayoutWordsSaid : Prop := layoutWordsRow.holds Tryd.pinned (OpenSpec.ofChange layoutWordsSpec)

/-- ITS FALSE NEIGHBOUR: 'it returns false'. Refute it at one input. -/
def layoutWordsWrong : ChangeSpec := { name := "layoutWords", fn := fun _ => fun
  | [d1, d2] => { results := [.lit (.bool false)], args := [d1, d2] }
  | _ => none }
def LayoutWordsWrongFalsely : Prop := layoutWordsRow.holds Tryd.pinned (OpenSpec.ofChange layoutWordsWrong)

/-- 'transomlaw06.LayoutTables': WHATEVER THE INPUT: true; the input reads as it did. -/
def layoutTablesSpec : ChangeSpec := { name := "layoutTables", fn := fun _ => fun
  | [d1, d2] => { results := [.lit (.bool true)], args := [d1, d2] }
  | _ => none }
def layoutTablesRow : OpenClaim := { program := "ytcbkdohahfjbfaadoor", sum := "ed83cf3764f4f450703f10820b579b10d6d762ed32b4dd0a116c4d20633515f8", func := "transom/transomlaw06.LayoutTables", spec := "layoutTables", unfollowed := true, recurses := true, named := ["transom/layout.widths", "transom/layout.inlines"], apart := false, laid := [("transom/layout.widths", laid_transom_layout_widths), ("transom/layout.inlines", laid_transom_layout_inlines)] }
def LayoutTablesSaid : Prop := layoutTablesRow.holds Tryd.pinned (OpenSpec.ofChange layoutTablesSpec)

/-- ITS FALSE NEIGHBOUR: 'it returns false'. Refute it at one input. -/
def layoutTablesWrong : ChangeSpec := { name := "layoutTables", fn := fun _ => fun
  | [d1, d2] => { results := [.lit (.bool false)], args := [d1, d2] }
  | _ => none }
def LayoutTablesWrongFalsely : Prop := layoutTablesRow.holds Tryd.pinned (OpenSpec.ofChange layoutTablesWrong)

/-- 'transomlaw06.LayoutRows': WHATEVER THE INPUT: true; the input reads as it did. -/
def layoutRowsSpec : ChangeSpec := { name := "layoutRows", fn := fun _ => fun
  | [d] => { results := [.lit (.bool true)], args := [d] }
  | _ => none }
def layoutRowsRow : OpenClaim := { program := "ytcbkdohahfjbfaadoor", sum := "ed83cf3764f4f450703f10820b579b10d6d762ed32b4dd0a116c4d20633515f8", func := "transom/transomlaw06.LayoutRows", spec := "layoutRows", unfollowed := true, recurses := true, named := ["transom/layout.widths"], apart := false, laid := [("transom/layout.widths", laid_transom_layout_widths)] }
def LayoutRowsSaid : Prop := layoutRowsRow.holds Tryd.pinned (OpenSpec.ofChange layoutRowsSpec)

/-- ITS FALSE NEIGHBOUR: 'it returns false'. Refute it at one input. -/
def layoutRowsWrong : ChangeSpec := { name := "layoutRows", fn := fun _ => fun
  | [d] => { results := [.lit (.bool false)], args := [d] }
  | _ => none }
def LayoutRowsWrongFalsely : Prop := layoutRowsRow.holds Tryd.pinned (OpenSpec.ofChange layoutRowsWrong)

/-- 'transomlaw06.LayoutUnits': WHATEVER THE INPUT: true; the input reads as it did. -/
def layoutUnitsSpec : ChangeSpec := { name := "layoutUnits", fn := fun _ => fun
  | [d] => { results := [.lit (.bool true)], args := [d] }
  | _ => none }
def layoutUnitsRow : OpenClaim := { program := "ytcbkdohahfjbfaadoor", sum := "ed83cf3764f4f450703f10820b579b10d6d762ed32b4dd0a116c4d20633515f8", func := "transom/transomlaw06.LayoutUnits", spec := "layoutUnits", named := ["transom/layout.widths"], apart := false, laid := [("transom/layout.widths", laid_transom_layout_widths)] }
def LayoutUnitsSaid : Prop := layoutUnitsRow.holds Tryd.pinned (OpenSpec.ofChange layoutUnitsSpec)

/-- ITS FALSE NEIGHBOUR: 'it returns false'. Refute it at one input. -/
def layoutUnitsWrong : ChangeSpec := { name := "layoutUnits", fn := fun _ => fun
  | [d] => { results := [.lit (.bool false)], args := [d] }
  | _ => none }
def LayoutUnitsWrongFalsely : Prop := layoutUnitsRow.holds Tryd.pinned (OpenSpec.ofChange layoutUnitsWrong)

/-- 'transomlaw06.LayoutApart': WHATEVER THE INPUT: true; the input reads as it did. -/
def layoutApartSpec : ChangeSpec := { name := "layoutApart", fn := fun _ => fun
  | [d1, d2] => { results := [.lit (.bool true)], args := [d1, d2] }
  | _ => none }
def layoutApartRow : OpenClaim := { program := "ytcbkdohahfjbfaadoor", sum := "ed83cf3764f4f450703f10820b579b10d6d762ed32b4dd0a116c4d20633515f8", func := "transom/transomlaw06.LayoutApart", spec := "layoutApart", unfollowed := true, recurses := true, named := ["transom/layout.widths", "transom/layout.inlines"], apart := false, laid := [("transom/layout.widths", laid_transom_layout_widths), ("transom/layout.inlines", laid_transom_layout_inlines)] }
def LayoutApartSaid : Prop := layoutApartRow.holds Tryd.pinned (OpenSpec.ofChange layoutApartSpec)

/-- ITS FALSE NEIGHBOUR: 'it returns false'. Refute it at one input. -/
def layoutApartWrong : ChangeSpec := { name := "layoutApart", fn := fun _ => fun
  | [d1, d2] => { results := [.lit (.bool false)], args := [d1, d2] }
  | _ => none }
def LayoutApartWrongFalsely : Prop := layoutApartRow.holds Tryd.pinned (OpenSpec.ofChange layoutApartWrong)

/- THE SECOND FORM. 'bulk': how many values and letters a reading holds, each counted each time it is reached (what is shared counts as often as it is met; a slice's spare places count too). A statement '..UptoSaid' is the law's where the arguments, and the package variables that the reading takes, are together of bulk at most 1048576: NARROWER than '..Said'. Prove '..Said' where nothing that the law and all that it calls make is longer than what came in: it says more and counts as full. Else prove '..UptoSaid'. A law counts once. -/
mutual
def uptoBulk {H : Type} : DataW H → Nat
  | .lit (.string bytes) => bytes.length + 1
  | .lit _ => 1
  | .nil => 1
  | .ptr d => uptoBulk d + 1
  | .slice elems spare => uptoBulkAll elems + uptoBulkAll spare + 1
  | .agg parts => uptoBulkAll parts + 1
  | .iface _ d => uptoBulk d + 1
  | .map entries => uptoBulkEntries entries + 1
  | .held _ => 1
def uptoBulkAll {H : Type} : List (DataW H) → Nat
  | [] => 0
  | d :: r => uptoBulk d + uptoBulkAll r
def uptoBulkEntries {H : Type} : List (Lit × DataW H) → Nat
  | [] => 0
  | x :: r => uptoBulkEntry x + uptoBulkEntries r
def uptoBulkEntry {H : Type} : Lit × DataW H → Nat
  | (.string bytes, d) => bytes.length + uptoBulk d + 1
  | (_, d) => uptoBulk d + 1
 end
def uptoSmall : (H : Type) → List (DataW H) → Bool := fun _ ds => decide (uptoBulkAll ds ≤ 1048576)
def OpenSpec.upto (s : _root_.Go.ChangeSpec) : _root_.Go.OpenSpec := { _root_.Go.OpenSpec.ofChange s with cond := some uptoSmall }

/-- 'transomlaw06.LayoutWords', WHERE WHAT IT READS IS OF BULK AT MOST 1048576: true; the input reads as it did. -/
def layoutWordsUptoRow : OpenClaim := { program := "ytcbkdohahfjbfaadoor", sum := "ed83cf3764f4f450703f10820b579b10d6d762ed32b4dd0a116c4d20633515f8", func := "transom/transomlaw06.LayoutWords", spec := "layoutWords", unfollowed := true, recurses := true, named := ["transom/layout.widths"], apart := false, laid := [("transom/layout.widths", laid_transom_layout_widths)], narrowed := true }
def LayoutWordsUptoSaid : Prop := layoutWordsUptoRow.holds Tryd.pinned (OpenSpec.upto layoutWordsSpec)

/-- 'transomlaw06.LayoutTables', WHERE WHAT IT READS IS OF BULK AT MOST 1048576: true; the input reads as it did. -/
def layoutTablesUptoRow : OpenClaim := { program := "ytcbkdohahfjbfaadoor", sum := "ed83cf3764f4f450703f10820b579b10d6d762ed32b4dd0a116c4d20633515f8", func := "transom/transomlaw06.LayoutTables", spec := "layoutTables", unfollowed := true, recurses := true, named := ["transom/layout.widths", "transom/layout.inlines"], apart := false, laid := [("transom/layout.widths", laid_transom_layout_widths), ("transom/layout.inlines", laid_transom_layout_inlines)], narrowed := true }
def LayoutTablesUptoSaid : Prop := layoutTablesUptoRow.holds Tryd.pinned (OpenSpec.upto layoutTablesSpec)

/-- 'transomlaw06.LayoutRows', WHERE WHAT IT READS IS OF BULK AT MOST 1048576: true; the input reads as it did. -/
def layoutRowsUptoRow : OpenClaim := { program := "ytcbkdohahfjbfaadoor", sum := "ed83cf3764f4f450703f10820b579b10d6d762ed32b4dd0a116c4d20633515f8", func := "transom/transomlaw06.LayoutRows", spec := "layoutRows", unfollowed := true, recurses := true, named := ["transom/layout.widths"], apart := false, laid := [("transom/layout.widths", laid_transom_layout_widths)], narrowed := true }
def LayoutRowsUptoSaid : Prop := layoutRowsUptoRow.holds Tryd.pinned (OpenSpec.upto layoutRowsSpec)

/-- 'transomlaw06.LayoutUnits', WHERE WHAT IT READS IS OF BULK AT MOST 1048576: true; the input reads as it did. -/
def layoutUnitsUptoRow : OpenClaim := { program := "ytcbkdohahfjbfaadoor", sum := "ed83cf3764f4f450703f10820b579b10d6d762ed32b4dd0a116c4d20633515f8", func := "transom/transomlaw06.LayoutUnits", spec := "layoutUnits", named := ["transom/layout.widths"], apart := false, laid := [("transom/layout.widths", laid_transom_layout_widths)], narrowed := true }
def LayoutUnitsUptoSaid : Prop := layoutUnitsUptoRow.holds Tryd.pinned (OpenSpec.upto layoutUnitsSpec)

/-- 'transomlaw06.LayoutApart', WHERE WHAT IT READS IS OF BULK AT MOST 1048576: true; the input reads as it did. -/
def layoutApartUptoRow : OpenClaim := { program := "ytcbkdohahfjbfaadoor", sum := "ed83cf3764f4f450703f10820b579b10d6d762ed32b4dd0a116c4d20633515f8", func := "transom/transomlaw06.LayoutApart", spec := "layoutApart", unfollowed := true, recurses := true, named := ["transom/layout.widths", "transom/layout.inlines"], apart := false, laid := [("transom/layout.widths", laid_transom_layout_widths), ("transom/layout.inlines", laid_transom_layout_inlines)], narrowed := true }
def LayoutApartUptoSaid : Prop := layoutApartUptoRow.holds Tryd.pinned (OpenSpec.upto layoutApartSpec)

end Rows
end Go.Proofs.YtcbkdohahfjbfaaDoor
