/-
  NARROWER THAN 'FOR EVERY INPUT', by the rows' own cells (each row's printed sentence says how): IdlPrints: laid · IdlCuts: laid · IdlJoins: laid · IdlNests: laid.
  DERIVED. THE GIVEN ROWS OF THIS SEAT. 4 by the template 'for every input the law returns true; each argument reads behind the call as it read before'; 0 by the template 'total and deterministic' (their statements: YtmjmblbaojchcaaDoorTotals.lean).
  GIVEN WITH THE SEED: the statements are not yours to turn. If you find one false, say at which input.
  Laid BY PROGRAM, IN A SANDBOX (cutbox-rows.mjs): the forced cells as the released guide's own fill.sh prints them over the translation 55e2ce0a1c75232c… (all of the seat's roots in one cut). By AI agents, Wed Nov 11 2026. No macro, syntax, notation, axiom, sorry.
-/
import Derived.Test.YtmjmblbaojchcaaDoorChecked
import GoSem.PinnedTables
import GoSem.Claim
import GoSem.ClaimJoined
import GoSem.ClaimMapViews
import Derived.JoinedTies
import Derived.KernelRfl
namespace Go.Proofs.YtmjmblbaojchcaaDoor
/- THE CELL 'sum', in the pinned program and in every row, IS THE sha256 OF THE DUMP (.gsa) THAT YtmjmblbaojchcaaDoorProg.lean LOADS. Nothing in Lean hashes anything: it is a label: what it is worth is what the hold of that sum in a sandbox is worth. -/
noncomputable def Tryd.pinned : Pinned := { name := "ytmjmblbaojchcaadoor", sum := "55e2ce0a1c75232c505b0365f062b0476b96bf5099e183e13a5a14a5ee79c894", checked := Tryd.checked }
namespace Rows
def none {H : Type} : Left H := { results := [], args := [] }

/- WHAT THE LISTED PACKAGE-LEVEL VARIABLES READ AS WHEN THE CALL BEGINS. Each datum BY PROGRAM (the guide's laid-datum.mjs) off the statement by which the dump's own 'gosem.cut.vars' lays the variable. In a bare row this is a premise. The card (YtmjmblbaojchcaaDoorCards.lean) ties it to the program's text. -/
def laid_unicode_utf8_acceptRanges {H : Type} : DataW H := .agg [.agg [.lit (.int .u8 128), .lit (.int .u8 191)], .agg [.lit (.int .u8 160), .lit (.int .u8 191)], .agg [.lit (.int .u8 128), .lit (.int .u8 159)], .agg [.lit (.int .u8 144), .lit (.int .u8 191)], .agg [.lit (.int .u8 128), .lit (.int .u8 143)], .agg [.lit (.int .u8 0), .lit (.int .u8 0)], .agg [.lit (.int .u8 0), .lit (.int .u8 0)], .agg [.lit (.int .u8 0), .lit (.int .u8 0)], .agg [.lit (.int .u8 0), .lit (.int .u8 0)], .agg [.lit (.int .u8 0), .lit (.int .u8 0)], .agg [.lit (.int .u8 0), .lit (.int .u8 0)], .agg [.lit (.int .u8 0), .lit (.int .u8 0)], .agg [.lit (.int .u8 0), .lit (.int .u8 0)], .agg [.lit (.int .u8 0), .lit (.int .u8 0)], .agg [.lit (.int .u8 0), .lit (.int .u8 0)], .agg [.lit (.int .u8 0), .lit (.int .u8 0)]]
/-- One of Go's own tables, pinned by name: the form's constant. -/
def laid_unicode_utf8_first : DataW Unit := Go.Pinned.utf8First

/-- 'transomlaw04.IdlPrints': WHATEVER THE INPUT: true; the input reads as it did. -/
def idlPrintsSpec : ChangeSpec := { name := "idlPrints", fn := fun _ => fun
  | [d1, d2, d3] => { results := [.lit (.bool true)], args := [d1, d2, d3] }
  | _ => none }
def idlPrintsRow : OpenClaim := { program := "ytmjmblbaojchcaadoor", sum := "55e2ce0a1c75232c505b0365f062b0476b96bf5099e183e13a5a14a5ee79c894", func := "transom/transomlaw04.IdlPrints", spec := "idlPrints", inPlace := ["internal/bytealg.IndexByteString"], unfollowed := true, recurses := true, named := ["unicode/utf8.first", "unicode/utf8.acceptRanges"], apart := false, laid := [("unicode/utf8.acceptRanges", laid_unicode_utf8_acceptRanges), ("unicode/utf8.first", laid_unicode_utf8_first)] }
def IdlPrintsSaid : Prop := idlPrintsRow.holds Tryd.pinned (OpenSpec.ofChange idlPrintsSpec)

/-- ITS FALSE NEIGHBOUR: 'it returns false'. Refute it at one input. -/
def idlPrintsWrong : ChangeSpec := { name := "idlPrints", fn := fun _ => fun
  | [d1, d2, d3] => { results := [.lit (.bool false)], args := [d1, d2, d3] }
  | _ => none }
def IdlPrintsWrongFalsely : Prop := idlPrintsRow.holds Tryd.pinned (OpenSpec.ofChange idlPrintsWrong)

/-- 'transomlaw04.IdlCuts': WHATEVER THE INPUT: true; the input reads as it did. -/
def idlCutsSpec : ChangeSpec := { name := "idlCuts", fn := fun _ => fun
  | [d1, d2] => { results := [.lit (.bool true)], args := [d1, d2] }
  | _ => none }
def idlCutsRow : OpenClaim := { program := "ytmjmblbaojchcaadoor", sum := "55e2ce0a1c75232c505b0365f062b0476b96bf5099e183e13a5a14a5ee79c894", func := "transom/transomlaw04.IdlCuts", spec := "idlCuts", inPlace := ["internal/bytealg.IndexByteString"], unfollowed := true, recurses := true, named := ["unicode/utf8.first", "unicode/utf8.acceptRanges"], apart := false, laid := [("unicode/utf8.acceptRanges", laid_unicode_utf8_acceptRanges), ("unicode/utf8.first", laid_unicode_utf8_first)] }
def IdlCutsSaid : Prop := idlCutsRow.holds Tryd.pinned (OpenSpec.ofChange idlCutsSpec)

/-- ITS FALSE NEIGHBOUR: 'it returns false'. Refute it at one input. -/
def idlCutsWrong : ChangeSpec := { name := "idlCuts", fn := fun _ => fun
  | [d1, d2] => { results := [.lit (.bool false)], args := [d1, d2] }
  | _ => none }
def IdlCutsWrongFalsely : Prop := idlCutsRow.holds Tryd.pinned (OpenSpec.ofChange idlCutsWrong)

/-- 'transomlaw04.IdlJoins': WHATEVER THE INPUT: true; the input reads as it did. -/
def idlJoinsSpec : ChangeSpec := { name := "idlJoins", fn := fun _ => fun
  | [d1, d2] => { results := [.lit (.bool true)], args := [d1, d2] }
  | _ => none }
def idlJoinsRow : OpenClaim := { program := "ytmjmblbaojchcaadoor", sum := "55e2ce0a1c75232c505b0365f062b0476b96bf5099e183e13a5a14a5ee79c894", func := "transom/transomlaw04.IdlJoins", spec := "idlJoins", inPlace := ["internal/bytealg.IndexByteString"], unfollowed := true, recurses := true, named := ["unicode/utf8.first", "unicode/utf8.acceptRanges"], apart := false, laid := [("unicode/utf8.acceptRanges", laid_unicode_utf8_acceptRanges), ("unicode/utf8.first", laid_unicode_utf8_first)] }
def IdlJoinsSaid : Prop := idlJoinsRow.holds Tryd.pinned (OpenSpec.ofChange idlJoinsSpec)

/-- ITS FALSE NEIGHBOUR: 'it returns false'. Refute it at one input. -/
def idlJoinsWrong : ChangeSpec := { name := "idlJoins", fn := fun _ => fun
  | [d1, d2] => { results := [.lit (.bool false)], args := [d1, d2] }
  | _ => none }
def IdlJoinsWrongFalsely : Prop := idlJoinsRow.holds Tryd.pinned (OpenSpec.ofChange idlJoinsWrong)

/-- 'transomlaw04.IdlNests': WHATEVER THE INPUT: true; the input reads as it did. -/
def idlNestsSpec : ChangeSpec := { name := "idlNests", fn := fun _ => fun
  | [d] => { results := [.lit (.bool true)], args := [d] }
  | _ => none }
def idlNestsRow : OpenClaim := { program := "ytmjmblbaojchcaadoor", sum := "55e2ce0a1c75232c505b0365f062b0476b96bf5099e183e13a5a14a5ee79c894", func := "transom/transomlaw04.IdlNests", spec := "idlNests", inPlace := ["internal/bytealg.IndexByteString"], unfollowed := true, recurses := true, named := ["unicode/utf8.first", "unicode/utf8.acceptRanges"], apart := false, laid := [("unicode/utf8.acceptRanges", laid_unicode_utf8_acceptRanges), ("unicode/utf8.first", laid_unicode_utf8_first)] }
def IdlNestsSaid : Prop := idlNestsRow.holds Tryd.pinned (OpenSpec.ofChange idlNestsSpec)

/-- ITS FALSE NEIGHBOUR: 'it returns false'. Refute it at one input. -/
def idlNestsWrong : ChangeSpec := { name := "idlNests", fn := fun _ => fun
  | [d] => { results := [.lit (.bool false)], args := [d] }
  | _ => none }
def IdlNestsWrongFalsely : Prop := idlNestsRow.holds Tryd.pinned (OpenSpec.ofChange idlNestsWrong)

/- THE SECOND FORM. 'bulk': how many values and letters a reading holds, each counted each time it is reached (what is shared counts as often as it is met; a slice's spare places count too). A statement '..UptoSaid' is the law's where the arguments, and the package variables that the reading takes, are together of bulk at most 1048576: NARROWER than '..Said'. Prove '..Said' where nothing that the law and all that it calls make is longer than what came in: it says more and counts as full. Else prove '..UptoSaid'. A law counts once. -/
mutual
def uptoBulk {H : Type} : DataW H → Nat
  | .lit (.string bytes) => bytes.length + 1
  | .lit _ => 1
  | .nil => 1
  | .ptr d => uptoBulk d + 1
  | .slice elems spare => uptoBulkAll elems + uptoBulkAll spare + 1
  | .agg parts => uptoBulkAll parts + 1
  | .iface _ d => uptoBulk d + 1
  | .map entries => uptoBulkEntries entries + 1
  | .held _ => 1
def uptoBulkAll {H : Type} : List (DataW H) → Nat
  | [] => 0
  | d :: r => uptoBulk d + uptoBulkAll r
def uptoBulkEntries {H : Type} : List (Lit × DataW H) → Nat
  | [] => 0
  | x :: r => uptoBulkEntry x + uptoBulkEntries r
def uptoBulkEntry {H : Type} : Lit × DataW H → Nat
  | (.string bytes, d) => bytes.length + uptoBulk d + 1
  | (_, d) => uptoBulk d + 1
 end
def uptoSmall : (H : Type) → List (DataW H) → Bool := fun _ ds => decide (uptoBulkAll ds ≤ 1048576)
def OpenSpec.upto (s : _root_.Go.ChangeSpec) : _root_.Go.OpenSpec := { _root_.Go.OpenSpec.ofChange s with cond := some uptoSmall }

/-- 'transomlaw04.IdlPrints', WHERE WHAT IT READS IS OF BULK AT MOST 1048576: true; the input reads as it did. -/
def idlPrintsUptoRow : OpenClaim := { program := "ytmjmblbaojchcaadoor", sum := "55e2ce0a1c75232c505b0365f062b0476b96bf5099e183e13a5a14a5ee79c894", func := "transom/transomlaw04.IdlPrints", spec := "idlPrints", inPlace := ["internal/bytealg.IndexByteString"], unfollowed := true, recurses := true, named := ["unicode/utf8.first", "unicode/utf8.acceptRanges"], apart := false, laid := [("unicode/utf8.acceptRanges", laid_unicode_utf8_acceptRanges), ("unicode/utf8.first", laid_unicode_utf8_first)], narrowed := true }
def IdlPrintsUptoSaid : Prop := idlPrintsUptoRow.holds Tryd.pinned (OpenSpec.upto idlPrintsSpec)

/-- 'transomlaw04.IdlCuts', WHERE WHAT IT READS IS OF BULK AT MOST 1048576: true; the input reads as it did. -/
def idlCutsUptoRow : OpenClaim := { program := "ytmjmblbaojchcaadoor", sum := "55e2ce0a1c75232c505b0365f062b0476b96bf5099e183e13a5a14a5ee79c894", func := "transom/transomlaw04.IdlCuts", spec := "idlCuts", inPlace := ["internal/bytealg.IndexByteString"], unfollowed := true, recurses := true, named := ["unicode/utf8.first", "unicode/utf8.acceptRanges"], apart := false, laid := [("unicode/utf8.acceptRanges", laid_unicode_utf8_acceptRanges), ("unicode/utf8.first", laid_unicode_utf8_first)], narrowed := true }
def IdlCutsUptoSaid : Prop := idlCutsUptoRow.holds Tryd.pinned (OpenSpec.upto idlCutsSpec)

/-- 'transomlaw04.IdlJoins', WHERE WHAT IT READS IS OF BULK AT MOST 1048576: true; the input reads as it did. -/
def idlJoinsUptoRow : OpenClaim := { program := "ytmjmblbaojchcaadoor", sum := "55e2ce0a1c75232c505b0365f062b0476b96bf5099e183e13a5a14a5ee79c894", func := "transom/transomlaw04.IdlJoins", spec := "idlJoins", inPlace := ["internal/bytealg.IndexByteString"], unfollowed := true, recurses := true, named := ["unicode/utf8.first", "unicode/utf8.acceptRanges"], apart := false, laid := [("unicode/utf8.acceptRanges", laid_unicode_utf8_acceptRanges), ("unicode/utf8.first", laid_unicode_utf8_first)], narrowed := true }
def IdlJoinsUptoSaid : Prop := idlJoinsUptoRow.holds Tryd.pinned (OpenSpec.upto idlJoinsSpec)

/-- 'transomlaw04.IdlNests', WHERE WHAT IT READS IS OF BULK AT MOST 1048576: true; the input reads as it did. -/
def idlNestsUptoRow : OpenClaim := { program := "ytmjmblbaojchcaadoor", sum := "55e2ce0a1c75232c505b0365f062b0476b96bf5099e183e13a5a14a5ee79c894", func := "transom/transomlaw04.IdlNests", spec := "idlNests", inPlace := ["internal/bytealg.IndexByteString"], unfollowed := true, recurses := true, named := ["unicode/utf8.first", "unicode/utf8.acceptRanges"], apart := false, laid := [("unicode/utf8.acceptRanges", laid_unicode_utf8_acceptRanges), ("unicode/utf8.first", laid_unicode_utf8_first)], narrowed := true }
def IdlNestsUptoSaid : Prop := idlNestsUptoRow.holds Tryd.pinned (OpenSpec.upto idlNestsSpec)

end Rows
end Go.Proofs.YtmjmblbaojchcaaDoor
