/-
  NARROWER THAN 'FOR EVERY INPUT', by the rows' own cells (each row's printed sentence says how): ViewTrees: laid · ViewFits: loops, laid · ViewTurned: laid · ViewDefaults: laid · ViewDeep: laid.
  DERIVED. THE GIVEN ROWS OF THIS SEAT. 5 by the template 'for every input the law returns true; each argument reads behind the call as it read before'; 0 by the template 'total and deterministic' (their statements: YtjeoekggdohhiaaDoorTotals.lean).
  GIVEN WITH THE SEED: the statements are not yours to turn. If you find one false, say at which input.
  Laid BY PROGRAM, IN A SANDBOX (cutbox-rows.mjs): the forced cells as the released guide's own fill.sh prints them over the translation 6a981a2f71e1e7fc… (all of the seat's roots in one cut). By AI agents, Wed Nov 11 2026. No macro, syntax, notation, axiom, sorry.
-/
import Derived.Test.YtjeoekggdohhiaaDoorChecked
import GoSem.PinnedTables
import GoSem.Claim
import GoSem.ClaimJoined
import GoSem.ClaimMapViews
import Derived.JoinedTies
import Derived.KernelRfl
namespace Go.Proofs.YtjeoekggdohhiaaDoor
/- THE CELL 'sum', in the pinned program and in every row, IS THE sha256 OF THE DUMP (.gsa) THAT YtjeoekggdohhiaaDoorProg.lean LOADS. Nothing in Lean hashes anything: it is a label: what it is worth is what the hold of that sum in a sandbox is worth. -/
noncomputable def Tryd.pinned : Pinned := { name := "ytjeoekggdohhiaadoor", sum := "6a981a2f71e1e7fcf3a51f64e6ecf3186f8c7f6c7e61c500de4640224508c400", checked := Tryd.checked }
namespace Rows
def none {H : Type} : Left H := { results := [], args := [] }

/- WHAT THE LISTED PACKAGE-LEVEL VARIABLES READ AS WHEN THE CALL BEGINS. Each datum BY PROGRAM (the guide's laid-datum.mjs) off the statement by which the dump's own 'gosem.cut.vars' lays the variable. In a bare row this is a premise. The card (YtjeoekggdohhiaaDoorCards.lean) ties it to the program's text. -/
def laid_unicode_utf8_acceptRanges {H : Type} : DataW H := .agg [.agg [.lit (.int .u8 128), .lit (.int .u8 191)], .agg [.lit (.int .u8 160), .lit (.int .u8 191)], .agg [.lit (.int .u8 128), .lit (.int .u8 159)], .agg [.lit (.int .u8 144), .lit (.int .u8 191)], .agg [.lit (.int .u8 128), .lit (.int .u8 143)], .agg [.lit (.int .u8 0), .lit (.int .u8 0)], .agg [.lit (.int .u8 0), .lit (.int .u8 0)], .agg [.lit (.int .u8 0), .lit (.int .u8 0)], .agg [.lit (.int .u8 0), .lit (.int .u8 0)], .agg [.lit (.int .u8 0), .lit (.int .u8 0)], .agg [.lit (.int .u8 0), .lit (.int .u8 0)], .agg [.lit (.int .u8 0), .lit (.int .u8 0)], .agg [.lit (.int .u8 0), .lit (.int .u8 0)], .agg [.lit (.int .u8 0), .lit (.int .u8 0)], .agg [.lit (.int .u8 0), .lit (.int .u8 0)], .agg [.lit (.int .u8 0), .lit (.int .u8 0)]]
/-- One of Go's own tables, pinned by name: the form's constant. -/
def laid_unicode_utf8_first : DataW Unit := Go.Pinned.utf8First

/-- 'transomlaw07.ViewTrees': WHATEVER THE INPUT: true; the input reads as it did. -/
def viewTreesSpec : ChangeSpec := { name := "viewTrees", fn := fun _ => fun
  | [d1, d2] => { results := [.lit (.bool true)], args := [d1, d2] }
  | _ => none }
def viewTreesRow : OpenClaim := { program := "ytjeoekggdohhiaadoor", sum := "6a981a2f71e1e7fcf3a51f64e6ecf3186f8c7f6c7e61c500de4640224508c400", func := "transom/transomlaw07.ViewTrees", spec := "viewTrees", unfollowed := true, recurses := true, named := ["unicode/utf8.first", "unicode/utf8.acceptRanges"], apart := false, laid := [("unicode/utf8.acceptRanges", laid_unicode_utf8_acceptRanges), ("unicode/utf8.first", laid_unicode_utf8_first)] }
def ViewTreesSaid : Prop := viewTreesRow.holds Tryd.pinned (OpenSpec.ofChange viewTreesSpec)

/-- ITS FALSE NEIGHBOUR: 'it returns false'. Refute it at one input. -/
def viewTreesWrong : ChangeSpec := { name := "viewTrees", fn := fun _ => fun
  | [d1, d2] => { results := [.lit (.bool false)], args := [d1, d2] }
  | _ => none }
def ViewTreesWrongFalsely : Prop := viewTreesRow.holds Tryd.pinned (OpenSpec.ofChange viewTreesWrong)

/-- 'transomlaw07.ViewFits': WHATEVER THE INPUT: true; the input reads as it did. -/
def viewFitsSpec : ChangeSpec := { name := "viewFits", fn := fun _ => fun
  | [d1, d2, d3] => { results := [.lit (.bool true)], args := [d1, d2, d3] }
  | _ => none }
def viewFitsRow : OpenClaim := { program := "ytjeoekggdohhiaadoor", sum := "6a981a2f71e1e7fcf3a51f64e6ecf3186f8c7f6c7e61c500de4640224508c400", func := "transom/transomlaw07.ViewFits", spec := "viewFits", unfollowed := true, recurses := true, named := ["unicode/utf8.first", "unicode/utf8.acceptRanges"], loops := true, apart := false, laid := [("unicode/utf8.acceptRanges", laid_unicode_utf8_acceptRanges), ("unicode/utf8.first", laid_unicode_utf8_first)] }
def ViewFitsSaid : Prop := viewFitsRow.holds Tryd.pinned (OpenSpec.ofChange viewFitsSpec)

/-- ITS FALSE NEIGHBOUR: 'it returns false'. Refute it at one input. -/
def viewFitsWrong : ChangeSpec := { name := "viewFits", fn := fun _ => fun
  | [d1, d2, d3] => { results := [.lit (.bool false)], args := [d1, d2, d3] }
  | _ => none }
def ViewFitsWrongFalsely : Prop := viewFitsRow.holds Tryd.pinned (OpenSpec.ofChange viewFitsWrong)

/-- 'transomlaw07.ViewTurned': WHATEVER THE INPUT: true; the input reads as it did. -/
def viewTurnedSpec : ChangeSpec := { name := "viewTurned", fn := fun _ => fun
  | [d1, d2, d3, d4, d5] => { results := [.lit (.bool true)], args := [d1, d2, d3, d4, d5] }
  | _ => none }
def viewTurnedRow : OpenClaim := { program := "ytjeoekggdohhiaadoor", sum := "6a981a2f71e1e7fcf3a51f64e6ecf3186f8c7f6c7e61c500de4640224508c400", func := "transom/transomlaw07.ViewTurned", spec := "viewTurned", unfollowed := true, recurses := true, named := ["unicode/utf8.first", "unicode/utf8.acceptRanges"], apart := false, laid := [("unicode/utf8.acceptRanges", laid_unicode_utf8_acceptRanges), ("unicode/utf8.first", laid_unicode_utf8_first)] }
def ViewTurnedSaid : Prop := viewTurnedRow.holds Tryd.pinned (OpenSpec.ofChange viewTurnedSpec)

/-- ITS FALSE NEIGHBOUR: 'it returns false'. Refute it at one input. -/
def viewTurnedWrong : ChangeSpec := { name := "viewTurned", fn := fun _ => fun
  | [d1, d2, d3, d4, d5] => { results := [.lit (.bool false)], args := [d1, d2, d3, d4, d5] }
  | _ => none }
def ViewTurnedWrongFalsely : Prop := viewTurnedRow.holds Tryd.pinned (OpenSpec.ofChange viewTurnedWrong)

/-- 'transomlaw07.ViewDefaults': WHATEVER THE INPUT: true; the input reads as it did. -/
def viewDefaultsSpec : ChangeSpec := { name := "viewDefaults", fn := fun _ => fun
  | [d1, d2] => { results := [.lit (.bool true)], args := [d1, d2] }
  | _ => none }
def viewDefaultsRow : OpenClaim := { program := "ytjeoekggdohhiaadoor", sum := "6a981a2f71e1e7fcf3a51f64e6ecf3186f8c7f6c7e61c500de4640224508c400", func := "transom/transomlaw07.ViewDefaults", spec := "viewDefaults", unfollowed := true, recurses := true, named := ["unicode/utf8.first", "unicode/utf8.acceptRanges"], apart := false, laid := [("unicode/utf8.acceptRanges", laid_unicode_utf8_acceptRanges), ("unicode/utf8.first", laid_unicode_utf8_first)] }
def ViewDefaultsSaid : Prop := viewDefaultsRow.holds Tryd.pinned (OpenSpec.ofChange viewDefaultsSpec)

/-- ITS FALSE NEIGHBOUR: 'it returns false'. Refute it at one input. -/
def viewDefaultsWrong : ChangeSpec := { name := "viewDefaults", fn := fun _ => fun
  | [d1, d2] => { results := [.lit (.bool false)], args := [d1, d2] }
  | _ => none }
def ViewDefaultsWrongFalsely : Prop := viewDefaultsRow.holds Tryd.pinned (OpenSpec.ofChange viewDefaultsWrong)

/-- 'transomlaw07.ViewDeep': WHATEVER THE INPUT: true; the input reads as it did. -/
def viewDeepSpec : ChangeSpec := { name := "viewDeep", fn := fun _ => fun
  | [d1, d2] => { results := [.lit (.bool true)], args := [d1, d2] }
  | _ => none }
def viewDeepRow : OpenClaim := { program := "ytjeoekggdohhiaadoor", sum := "6a981a2f71e1e7fcf3a51f64e6ecf3186f8c7f6c7e61c500de4640224508c400", func := "transom/transomlaw07.ViewDeep", spec := "viewDeep", unfollowed := true, recurses := true, named := ["unicode/utf8.first", "unicode/utf8.acceptRanges"], apart := false, laid := [("unicode/utf8.acceptRanges", laid_unicode_utf8_acceptRanges), ("unicode/utf8.first", laid_unicode_utf8_first)] }
def ViewDeepSaid : Prop := viewDeepRow.holds Tryd.pinned (OpenSpec.ofChange viewDeepSpec)

/-- ITS FALSE NEIGHBOUR: 'it returns false'. Refute it at one input. -/
def viewDeepWrong : ChangeSpec := { name := "viewDeep", fn := fun _ => fun
  | [d1, d2] => { results := [.lit (.bool false)], args := [d1, d2] }
  | _ => none }
def ViewDeepWrongFalsely : Prop := viewDeepRow.holds Tryd.pinned (OpenSpec.ofChange viewDeepWrong)

/- THE SECOND FORM. 'bulk': how many values and letters a reading holds, each counted each time it is reached (what is shared counts as often as it is met; a slice's spare places count too). A statement '..UptoSaid' is the law's where the arguments, and the package variables that the reading takes, are together of bulk at most 1048576: NARROWER than '..Said'. Prove '..Said' where nothing that the law and all that it calls make is longer than what came in: it says more and counts as full. Else prove '..UptoSaid'. A law counts once. -/
mutual
def uptoBulk {H : Type} : DataW H → Nat
  | .lit (.string bytes) => bytes.length + 1
  | .lit _ => 1
  | .nil => 1
  | .ptr d => uptoBulk d + 1
  | .slice elems spare => uptoBulkAll elems + uptoBulkAll spare + 1
  | .agg parts => uptoBulkAll parts + 1
  | .iface _ d => uptoBulk d + 1
  | .map entries => uptoBulkEntries entries + 1
  | .held _ => 1
def uptoBulkAll {H : Type} : List (DataW H) → Nat
  | [] => 0
  | d :: r => uptoBulk d + uptoBulkAll r
def uptoBulkEntries {H : Type} : List (Lit × DataW H) → Nat
  | [] => 0
  | x :: r => uptoBulkEntry x + uptoBulkEntries r
def uptoBulkEntry {H : Type} : Lit × DataW H → Nat
  | (.string bytes, d) => bytes.length + uptoBulk d + 1
  | (_, d) => uptoBulk d + 1
 end
def uptoSmall : (H : Type) → List (DataW H) → Bool := fun _ ds => decide (uptoBulkAll ds ≤ 1048576)
def OpenSpec.upto (s : _root_.Go.ChangeSpec) : _root_.Go.OpenSpec := { _root_.Go.OpenSpec.ofChange s with cond := some uptoSmall }

/-- 'transomlaw07.ViewTrees', WHERE WHAT IT READS IS OF BULK AT MOST 1048576: true; the input reads as it did. -/
def viewTreesUptoRow : OpenClaim := { program := "ytjeoekggdohhiaadoor", sum := "6a981a2f71e1e7fcf3a51f64e6ecf3186f8c7f6c7e61c500de4640224508c400", func := "transom/transomlaw07.ViewTrees", spec := "viewTrees", unfollowed := true, recurses := true, named := ["unicode/utf8.first", "unicode/utf8.acceptRanges"], apart := false, laid := [("unicode/utf8.acceptRanges", laid_unicode_utf8_acceptRanges), ("unicode/utf8.first", laid_unicode_utf8_first)], narrowed := true }
def ViewTreesUptoSaid : Prop := viewTreesUptoRow.holds Tryd.pinned (OpenSpec.upto viewTreesSpec)

/-- 'transomlaw07.ViewFits', WHERE WHAT IT READS IS OF BULK AT MOST 1048576: true; the input reads as it did. -/
def viewFitsUptoRow : OpenClaim := { program := "ytjeoekggdohhiaadoor", sum := "6a981a2f71e1e7fcf3a51f64e6ecf3186f8c7f6c7e61c500de4640224508c400", func := "transom/transomlaw07.ViewFits", spec := "viewFits", unfollowed := true, recurses := true, named := ["unicode/utf8.first", "unicode/utf8.acceptRanges"], loops := true, apart := false, laid := [("unicode/utf8.acceptRanges", laid_unicode_utf8_acceptRanges), ("unicode/utf8.first", laid_unicode_utf8_first)], narrowed := true }
def ViewFitsUptoSaid : Prop := viewFitsUptoRow.holds Tryd.pinned (OpenSpec.upto viewFitsSpec)

/-- 'transomlaw07.ViewTurned', WHERE WHAT IT READS IS OF BULK AT MOST 1048576: true; the input reads as it did. -/
def viewTurnedUptoRow : OpenClaim := { program := "ytjeoekggdohhiaadoor", sum := "6a981a2f71e1e7fcf3a51f64e6ecf3186f8c7f6c7e61c500de4640224508c400", func := "transom/transomlaw07.ViewTurned", spec := "viewTurned", unfollowed := true, recurses := true, named := ["unicode/utf8.first", "unicode/utf8.acceptRanges"], apart := false, laid := [("unicode/utf8.acceptRanges", laid_unicode_utf8_acceptRanges), ("unicode/utf8.first", laid_unicode_utf8_first)], narrowed := true }
def ViewTurnedUptoSaid : Prop := viewTurnedUptoRow.holds Tryd.pinned (OpenSpec.upto viewTurnedSpec)

/-- 'transomlaw07.ViewDefaults', WHERE WHAT IT READS IS OF BULK AT MOST 1048576: true; the input reads as it did. -/
def viewDefaultsUptoRow : OpenClaim := { program := "ytjeoekggdohhiaadoor", sum := "6a981a2f71e1e7fcf3a51f64e6ecf3186f8c7f6c7e61c500de4640224508c400", func := "transom/transomlaw07.ViewDefaults", spec := "viewDefaults", unfollowed := true, recurses := true, named := ["unicode/utf8.first", "unicode/utf8.acceptRanges"], apart := false, laid := [("unicode/utf8.acceptRanges", laid_unicode_utf8_acceptRanges), ("unicode/utf8.first", laid_unicode_utf8_first)], narrowed := true }
def ViewDefaultsUptoSaid : Prop := viewDefaultsUptoRow.holds Tryd.pinned (OpenSpec.upto viewDefaultsSpec)

/-- 'transomlaw07.ViewDeep', WHERE WHAT IT READS IS OF BULK AT MOST 1048576: true; the input reads as it did. -/
def viewDeepUptoRow : OpenClaim := { program := "ytjeoekggdohhiaadoor", sum := "6a981a2f71e1e7fcf3a51f64e6ecf3186f8c7f6c7e61c500de4640224508c400", func := "transom/transomlaw07.ViewDeep", spec := "viewDeep", unfollowed := true, recurses := true, named := ["unicode/utf8.first", "unicode/utf8.acceptRanges"], apart := false, laid := [("unicode/utf8.acceptRanges", laid_unicode_utf8_acceptRanges), ("unicode/utf8.first", laid_unicode_utf8_first)], narrowed := true }
def ViewDeepUptoSaid : Prop := viewDeepUptoRow.holds Tryd.pinned (OpenSpec.upto viewDeepSpec)

end Rows
end Go.Proofs.YtjeoekggdohhiaaDoor
