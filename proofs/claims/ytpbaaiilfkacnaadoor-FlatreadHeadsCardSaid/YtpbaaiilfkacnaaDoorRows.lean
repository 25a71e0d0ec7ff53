/-
  NARROWER THAN 'FOR EVERY INPUT', by the rows' own cells (each row's printed sentence says how): FlatreadTurned: laid · FlatreadHeads: laid · FlatwriteMeters: laid · LayoutWords: laid · ViewFits: loops, laid · ViewDefaults: laid.
  DERIVED. THE GIVEN ROWS OF THIS SEAT. 6 by the template 'for every input the law returns true; each argument reads behind the call as it read before'; 0 by the template 'total and deterministic' (their statements: YtpbaaiilfkacnaaDoorTotals.lean).
  GIVEN WITH THE SEED: the statements are not yours to turn. If you find one false, say at which input.
  Laid BY PROGRAM, IN A SANDBOX (cutbox-rows.mjs): the forced cells as the released guide's own fill.sh prints them over the translation 3e066dd5c074d17e… (all of the seat's roots in one cut). By AI agents, Wed Nov 11 2026. No macro, syntax, notation, axiom, sorry.
-/
import Derived.Test.YtpbaaiilfkacnaaDoorChecked
import GoSem.PinnedTables
import GoSem.Claim
import GoSem.ClaimJoined
import GoSem.ClaimMapViews
import Derived.JoinedTies
import Derived.KernelRfl
namespace Go.Proofs.YtpbaaiilfkacnaaDoor
/- THE CELL 'sum', in the pinned program and in every row, IS THE sha256 OF THE DUMP (.gsa) THAT YtpbaaiilfkacnaaDoorProg.lean LOADS. Nothing in Lean hashes anything: it is a label: what it is worth is what the hold of that sum in a sandbox is worth. -/
noncomputable def Tryd.pinned : Pinned := { name := "ytpbaaiilfkacnaadoor", sum := "3e066dd5c074d17e3f5b3e1567994b7b3d0d45e8905ed244696668ae2b0c07a0", checked := Tryd.checked }
namespace Rows
def none {H : Type} : Left H := { results := [], args := [] }

/- WHAT THE LISTED PACKAGE-LEVEL VARIABLES READ AS WHEN THE CALL BEGINS. Each datum BY PROGRAM (the guide's laid-datum.mjs) off the statement by which the dump's own 'gosem.cut.vars' lays the variable. In a bare row this is a premise. The card (YtpbaaiilfkacnaaDoorCards.lean) ties it to the program's text. -/
def laid_unicode_utf8_acceptRanges {H : Type} : DataW H := .agg [.agg [.lit (.int .u8 128), .lit (.int .u8 191)], .agg [.lit (.int .u8 160), .lit (.int .u8 191)], .agg [.lit (.int .u8 128), .lit (.int .u8 159)], .agg [.lit (.int .u8 144), .lit (.int .u8 191)], .agg [.lit (.int .u8 128), .lit (.int .u8 143)], .agg [.lit (.int .u8 0), .lit (.int .u8 0)], .agg [.lit (.int .u8 0), .lit (.int .u8 0)], .agg [.lit (.int .u8 0), .lit (.int .u8 0)], .agg [.lit (.int .u8 0), .lit (.int .u8 0)], .agg [.lit (.int .u8 0), .lit (.int .u8 0)], .agg [.lit (.int .u8 0), .lit (.int .u8 0)], .agg [.lit (.int .u8 0), .lit (.int .u8 0)], .agg [.lit (.int .u8 0), .lit (.int .u8 0)], .agg [.lit (.int .u8 0), .lit (.int .u8 0)], .agg [.lit (.int .u8 0), .lit (.int .u8 0)], .agg [.lit (.int .u8 0), .lit (.int .u8 0)]]
/-- One of Go's own tables, pinned by name: the form's constant. -/
def laid_unicode_utf8_first : DataW Unit := Go.Pinned.utf8First
def laid_transom_layout_inlines {H : Type} : DataW H := .agg [.lit (.int .i64 8), .lit (.int .i64 4), .lit (.int .i64 2), .lit (.int .i64 1)]
def laid_transom_layout_widths {H : Type} : DataW H := .agg [.lit (.int .i64 64), .lit (.int .i64 32), .lit (.int .i64 16), .lit (.int .i64 8), .lit (.int .i64 1)]

/-- 'transomlaw10.FlatreadTurned': WHATEVER THE INPUT: true; the input reads as it did. -/
def flatreadTurnedSpec : ChangeSpec := { name := "flatreadTurned", fn := fun _ => fun
  | [d1, d2, d3, d4, d5] => { results := [.lit (.bool true)], args := [d1, d2, d3, d4, d5] }
  | _ => none }
def flatreadTurnedRow : OpenClaim := { program := "ytpbaaiilfkacnaadoor", sum := "3e066dd5c074d17e3f5b3e1567994b7b3d0d45e8905ed244696668ae2b0c07a0", func := "transom/transomlaw10.FlatreadTurned", spec := "flatreadTurned", unfollowed := true, recurses := true, named := ["unicode/utf8.first", "unicode/utf8.acceptRanges"], apart := false, laid := [("unicode/utf8.acceptRanges", laid_unicode_utf8_acceptRanges), ("unicode/utf8.first", laid_unicode_utf8_first)] }
def FlatreadTurnedSaid : Prop := flatreadTurnedRow.holds Tryd.pinned (OpenSpec.ofChange flatreadTurnedSpec)

/-- ITS FALSE NEIGHBOUR: 'it returns false'. Refute it at one input. -/
def flatreadTurnedWrong : ChangeSpec := { name := "flatreadTurned", fn := fun _ => fun
  | [d1, d2, d3, d4, d5] => { results := [.lit (.bool false)], args := [d1, d2, d3, d4, d5] }
  | _ => none }
def FlatreadTurnedWrongFalsely : Prop := flatreadTurnedRow.holds Tryd.pinned (OpenSpec.ofChange flatreadTurnedWrong)

/-- 'transomlaw10.FlatreadHeads': WHATEVER THE INPUT: true; the input reads as it did. -/
def flatreadHeadsSpec : ChangeSpec := { name := "flatreadHeads", fn := fun _ => fun
  | [d1, d2, d3, d4, d5] => { results := [.lit (.bool true)], args := [d1, d2, d3, d4, d5] }
  | _ => none }
def flatreadHeadsRow : OpenClaim := { program := "ytpbaaiilfkacnaadoor", sum := "3e066dd5c074d17e3f5b3e1567994b7b3d0d45e8905ed244696668ae2b0c07a0", func := "transom/transomlaw10.FlatreadHeads", spec := "flatreadHeads", unfollowed := true, recurses := true, named := ["unicode/utf8.first", "unicode/utf8.acceptRanges"], apart := false, laid := [("unicode/utf8.acceptRanges", laid_unicode_utf8_acceptRanges), ("unicode/utf8.first", laid_unicode_utf8_first)] }
def FlatreadHeadsSaid : Prop := flatreadHeadsRow.holds Tryd.pinned (OpenSpec.ofChange flatreadHeadsSpec)

/-- ITS FALSE NEIGHBOUR: 'it returns false'. Refute it at one input. -/
def flatreadHeadsWrong : ChangeSpec := { name := "flatreadHeads", fn := fun _ => fun
  | [d1, d2, d3, d4, d5] => { results := [.lit (.bool false)], args := [d1, d2, d3, d4, d5] }
  | _ => none }
def FlatreadHeadsWrongFalsely : Prop := flatreadHeadsRow.holds Tryd.pinned (OpenSpec.ofChange flatreadHeadsWrong)

/-- 'transomlaw11.FlatwriteMeters': WHATEVER THE INPUT: true; the input reads as it did. -/
def flatwriteMetersSpec : ChangeSpec := { name := "flatwriteMeters", fn := fun _ => fun
  | [d1, d2, d3] => { results := [.lit (.bool true)], args := [d1, d2, d3] }
  | _ => none }
def flatwriteMetersRow : OpenClaim := { program := "ytpbaaiilfkacnaadoor", sum := "3e066dd5c074d17e3f5b3e1567994b7b3d0d45e8905ed244696668ae2b0c07a0", func := "transom/transomlaw11.FlatwriteMeters", spec := "flatwriteMeters", unfollowed := true, recurses := true, named := ["transom/layout.inlines"], apart := false, laid := [("transom/layout.inlines", laid_transom_layout_inlines)] }
def FlatwriteMetersSaid : Prop := flatwriteMetersRow.holds Tryd.pinned (OpenSpec.ofChange flatwriteMetersSpec)

/-- ITS FALSE NEIGHBOUR: 'it returns false'. Refute it at one input. -/
def flatwriteMetersWrong : ChangeSpec := { name := "flatwriteMeters", fn := fun _ => fun
  | [d1, d2, d3] => { results := [.lit (.bool false)], args := [d1, d2, d3] }
  | _ => none }
def FlatwriteMetersWrongFalsely : Prop := flatwriteMetersRow.holds Tryd.pinned (OpenSpec.ofChange flatwriteMetersWrong)

/-- 'transomlaw06.LayoutWords': WHATEVER THE INPUT: true; the input reads as it did. -/
def layoutWordsSpec : ChangeSpec := { name := "layoutWords", fn := fun _ => fun
  | [d1, d2] => { results := [.lit (.bool true)], args := [d1, d2] }
  | _ => none }
def layoutWordsRow : OpenClaim := { program := "ytpbaaiilfkacnaadoor", sum := "3e066dd5c074d17e3f5b3e1567994b7b3d0d45e8905ed244696668ae2b0c07a0", func := "transom/transomlaw06.LayoutWords", spec := "layoutWords", unfollowed := true, recurses := true, named := ["transom/layout.widths"], apart := false, laid := [("transom/layout.widths", laid_transom_layout_widths)] }
def LayoutWordsSaid : Prop := layoutWordsRow.holds Tryd.pinned (OpenSpec.ofChange layoutWordsSpec)

/-- ITS FALSE NEIGHBOUR: 'it returns false'. Refute it at one input. -/
def layoutWordsWrong : ChangeSpec := { name := "layoutWords", fn := fun _ => fun
  | [d1, d2] => { results := [.lit (.bool false)], args := [d1, d2] }
  | _ => none }
def LayoutWordsWrongFalsely : Prop := layoutWordsRow.holds Tryd.pinned (OpenSpec.ofChange layoutWordsWrong)

/-- 'transomlaw07.ViewFits': WHATEVER THE INPUT: true; the input reads as it did. -/
def viewFitsSpec : ChangeSpec := { name := "viewFits", fn := fun _ => fun
  | [d1, d2, d3] => { results := [.lit (.bool true)], args := [d1, d2, d3] }
  | _ => none }
def viewFitsRow : OpenClaim := { program := "ytpbaaiilfkacnaadoor", sum := "3e066dd5c074d17e3f5b3e1567994b7b3d0d45e8905ed244696668ae2b0c07a0", func := "transom/transomlaw07.ViewFits", spec := "viewFits", unfollowed := true, recurses := true, named := ["unicode/utf8.first", "unicode/utf8.acceptRanges"], loops := true, apart := false, laid := [("unicode/utf8.acceptRanges", laid_unicode_utf8_acceptRanges), ("unicode/utf8.first", laid_unicode_utf8_first)] }
def ViewFitsSaid : Prop := viewFitsRow.holds Tryd.pinned (OpenSpec.ofChange viewFitsSpec)

/-- ITS FALSE NEIGHBOUR: 'it returns false'. Refute it at one input. -/
def viewFitsWrong : ChangeSpec := { name := "viewFits", fn := fun _ => fun
  | [d1, d2, d3] => { results := [.lit (.bool false)], args := [d1, d2, d3] }
  | _ => none }
def ViewFitsWrongFalsely : Prop := viewFitsRow.holds Tryd.pinned (OpenSpec.ofChange viewFitsWrong)

/-- 'transomlaw07.ViewDefaults': WHATEVER THE INPUT: true; the input reads as it did. -/
def viewDefaultsSpec : ChangeSpec := { name := "viewDefaults", fn := fun _ => fun
  | [d1, d2] => { results := [.lit (.bool true)], args := [d1, d2] }
  | _ => none }
def viewDefaultsRow : OpenClaim := { program := "ytpbaaiilfkacnaadoor", sum := "3e066dd5c074d17e3f5b3e1567994b7b3d0d45e8905ed244696668ae2b0c07a0", func := "transom/transomlaw07.ViewDefaults", spec := "viewDefaults", unfollowed := true, recurses := true, named := ["unicode/utf8.first", "unicode/utf8.acceptRanges"], apart := false, laid := [("unicode/utf8.acceptRanges", laid_unicode_utf8_acceptRanges), ("unicode/utf8.first", laid_unicode_utf8_first)] }
def ViewDefaultsSaid : Prop := viewDefaultsRow.holds Tryd.pinned (OpenSpec.ofChange viewDefaultsSpec)

/-- ITS FALSE NEIGHBOUR: 'it returns false'. Refute it at one input. -/
def viewDefaultsWrong : ChangeSpec := { name := "viewDefaults", fn := fun _ => fun
  | [d1, d2] => { results := [.lit (.bool false)], args := [d1, d2] }
  | _ => none }
def ViewDefaultsWrongFalsely : Prop := viewDefaultsRow.holds Tryd.pinned (OpenSpec.ofChange viewDefaultsWrong)

/- THE SECOND FORM. 'bulk': how many values and letters a reading holds, each counted each time it is reached (what is shared counts as often as it is met; a slice's spare places count too). A statement '..UptoSaid' is the law's where the arguments, and the package variables that the reading takes, are together of bulk at most 1048576: NARROWER than '..Said'. Prove '..Said' where nothing that the law and all that it calls make is longer than what came in: it says more and counts as full. Else prove '..UptoSaid'. A law counts once. -/
mutual
def uptoBulk {H : Type} : DataW H → Nat
  | .lit (.string bytes) => bytes.length + 1
  | .lit _ => 1
  | .nil => 1
  | .ptr d => uptoBulk d + 1
  | .slice elems spare => uptoBulkAll elems + uptoBulkAll spare + 1
  | .agg parts => uptoBulkAll parts + 1
  | .iface _ d => uptoBulk d + 1
  | .map entries => uptoBulkEntries entries + 1
  | .held _ => 1
def uptoBulkAll {H : Type} : List (DataW H) → Nat
  | [] => 0
  | d :: r => uptoBulk d + uptoBulkAll r
def uptoBulkEntries {H : Type} : List (Lit × DataW H) → Nat
  | [] => 0
  | x :: r => uptoBulkEntry x + uptoBulkEntries r
def uptoBulkEntry {H : Type} : Lit × DataW H → Nat
  | (.string bytes, d) => bytes.length + uptoBulk d + 1
  | (_, d) => uptoBulk d + 1
 end
def uptoSmall : (H : Type) → List (DataW H) → Bool := fun _ ds => decide (uptoBulkAll ds ≤ 1048576)
def OpenSpec.upto (s : _root_.Go.ChangeSpec) : _root_.Go.OpenSpec := { _root_.Go.OpenSpec.ofChange s with cond := some uptoSmall }

/-- 'transomlaw10.FlatreadTurned', WHERE WHAT IT READS IS OF BULK AT MOST 1048576: true; the input reads as it did. -/
def flatreadTurnedUptoRow : OpenClaim := { program := "ytpbaaiilfkacnaadoor", sum := "3e066dd5c074d17e3f5b3e1567994b7b3d0d45e8905ed244696668ae2b0c07a0", func := "transom/transomlaw10.FlatreadTurned", spec := "flatreadTurned", unfollowed := true, recurses := true, named := ["unicode/utf8.first", "unicode/utf8.acceptRanges"], apart := false, laid := [("unicode/utf8.acceptRanges", laid_unicode_utf8_acceptRanges), ("unicode/utf8.first", laid_unicode_utf8_first)], narrowed := true }
def FlatreadTurnedUptoSaid : Prop := flatreadTurnedUptoRow.holds Tryd.pinned (OpenSpec.upto flatreadTurnedSpec)

/-- 'transomlaw10.FlatreadHeads', WHERE WHAT IT READS IS OF BULK AT MOST 1048576: true; the input reads as it did. -/
def flatreadHeadsUptoRow : OpenClaim := { program := "ytpbaaiilfkacnaadoor", sum := "3e066dd5c074d17e3f5b3e1567994b7b3d0d45e8905ed244696668ae2b0c07a0", func := "transom/transomlaw10.FlatreadHeads", spec := "flatreadHeads", unfollowed := true, recurses := true, named := ["unicode/utf8.first", "unicode/utf8.acceptRanges"], apart := false, laid := [("unicode/utf8.acceptRanges", laid_unicode_utf8_acceptRanges), ("unicode/utf8.first", laid_unicode_utf8_first)], narrowed := true }
def FlatreadHeadsUptoSaid : Prop := flatreadHeadsUptoRow.holds Tryd.pinned (OpenSpec.upto flatreadHeadsSpec)

/-- 'transomlaw11.FlatwriteMeters', WHERE WHAT IT READS IS OF BULK AT MOST 1048576: true; the input reads as it did. -/
def flatwriteMetersUptoRow : OpenClaim := { program := "ytpbaaiilfkacnaadoor", sum := "3e066dd5c074d17e3f5b3e1567994b7b3d0d45e8905ed244696668ae2b0c07a0", func := "transom/transomlaw11.FlatwriteMeters", spec := "flatwriteMeters", unfollowed := true, recurses := true, named := ["transom/layout.inlines"], apart := false, laid := [("transom/layout.inlines", laid_transom_layout_inlines)], narrowed := true }
def FlatwriteMetersUptoSaid : Prop := flatwriteMetersUptoRow.holds Tryd.pinned (OpenSpec.upto flatwriteMetersSpec)

/-- 'transomlaw06.LayoutWords', WHERE WHAT IT READS IS OF BULK AT MOST 1048576: true; the input reads as it did. -/
def layoutWordsUptoRow : OpenClaim := { program := "ytpbaaiilfkacnaadoor", sum := "3e066dd5c074d17e3f5b3e1567994b7b3d0d45e8905ed244696668ae2b0c07a0", func := "transom/transomlaw06.LayoutWords", spec := "layoutWords", unfollowed := true, recurses := true, named := ["transom/layout.widths"], apart := false, laid := [("transom/layout.widths", laid_transom_layout_widths)], narrowed := true }
def LayoutWordsUptoSaid : Prop := layoutWordsUptoRow.holds Tryd.pinned (OpenSpec.upto layoutWordsSpec)

/-- 'transomlaw07.ViewFits', WHERE WHAT IT READS IS OF BULK AT MOST 1048576: true; the input reads as it did. -/
def viewFitsUptoRow : OpenClaim := { program := "ytpbaaiilfkacnaadoor", sum := "3e066dd5c074d17e3f5b3e1567994b7b3d0d45e8905ed244696668ae2b0c07a0", func := "transom/transomlaw07.ViewFits", spec := "viewFits", unfollowed := true, recurses := true, named := ["unicode/utf8.first", "unicode/utf8.acceptRanges"], loops := true, apart := false, laid := [("unicode/utf8.acceptRanges", laid_unicode_utf8_acceptRanges), ("unicode/utf8.first", laid_unicode_utf8_first)], narrowed := true }
def ViewFitsUptoSaid : Prop := viewFitsUptoRow.holds Tryd.pinned (OpenSpec.upto viewFitsSpec)

/-- 'transomlaw07.ViewDefaults', WHERE WHAT IT READS IS OF BULK AT MOST 1048576: true; the input reads as it did. -/
def viewDefaultsUptoRow : OpenClaim := { program := "ytpbaaiilfkacnaadoor", sum := "3e066dd5c074d17e3f5b3e1567994b7b3d0d45e8905ed244696668ae2b0c07a0", func := "transom/transomlaw07.ViewDefaults", spec := "viewDefaults", unfollowed := true, recurses := true, named := ["unicode/utf8.first", "unicode/utf8.acceptRanges"], apart := false, laid := [("unicode/utf8.acceptRanges", laid_unicode_utf8_acceptRanges), ("unicode/utf8.first", laid_unicode_utf8_first)], narrowed := true }
def ViewDefaultsUptoSaid : Prop := viewDefaultsUptoRow.holds Tryd.pinned (OpenSpec.upto viewDefaultsSpec)

end Rows
end Go.Proofs.YtpbaaiilfkacnaaDoor
