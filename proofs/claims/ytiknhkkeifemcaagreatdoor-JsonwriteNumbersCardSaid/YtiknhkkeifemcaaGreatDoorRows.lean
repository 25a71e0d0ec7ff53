/-
  NARROWER THAN 'FOR EVERY INPUT', by the rows' own cells (each row's printed sentence says how): JsonreadAll: laid · JsonreadTurned: laid · JsonreadDressed: laid · JsonreadBack: laid · JsonreadDeep: laid · JsonreadTypes: laid · JsonwriteAll: laid · JsonwriteOnce: laid · JsonwriteNumbers: laid · JsonwritePieces: laid · JsonwriteMeters: laid.
  DERIVED. THE GIVEN ROWS OF THIS SEAT. 11 by the template 'for every input the law returns true; each argument reads behind the call as it read before'; 0 by the template 'total and deterministic' (their statements: YtiknhkkeifemcaaGreatDoorTotals.lean).
  GIVEN WITH THE SEED: the statements are not yours to turn. If you find one false, say at which input.
  Laid BY PROGRAM, IN A SANDBOX (cutbox-rows.mjs): the forced cells as the released guide's own fill.sh prints them over the translation a095d5707dda031b… (all of the seat's roots in one cut). By AI agents, Wed Nov 11 2026. No macro, syntax, notation, axiom, sorry.
-/
import Derived.Test.YtiknhkkeifemcaaGreatDoorChecked
import GoSem.PinnedTables
import GoSem.Claim
import GoSem.ClaimJoined
import GoSem.ClaimMapViews
import Derived.JoinedTies
import Derived.KernelRfl
namespace Go.Proofs.YtiknhkkeifemcaaGreatDoor
/- THE CELL 'sum', in the pinned program and in every row, IS THE sha256 OF THE DUMP (.gsa) THAT YtiknhkkeifemcaaGreatDoorProg.lean LOADS. Nothing in Lean hashes anything: it is a label: what it is worth is what the hold of that sum in a sandbox is worth. -/
noncomputable def Tryz.pinned : Pinned := { name := "ytiknhkkeifemcaagreatdoor", sum := "a095d5707dda031b87b7e4fa7d2d20eebf792024cfa3f01e1ec65a928440792c", checked := Tryz.checked }
namespace Rows
def none {H : Type} : Left H := { results := [], args := [] }

/- WHAT THE LISTED PACKAGE-LEVEL VARIABLES READ AS WHEN THE CALL BEGINS. Each datum BY PROGRAM (the guide's laid-datum.mjs) off the statement by which the dump's own 'gosem.cut.vars' lays the variable. In a bare row this is a premise. The card (YtiknhkkeifemcaaGreatDoorCards.lean) ties it to the program's text. -/
def laid_math_bits_deBruijn32tab {H : Type} : DataW H := .agg [.lit (.int .u8 0), .lit (.int .u8 1), .lit (.int .u8 28), .lit (.int .u8 2), .lit (.int .u8 29), .lit (.int .u8 14), .lit (.int .u8 24), .lit (.int .u8 3), .lit (.int .u8 30), .lit (.int .u8 22), .lit (.int .u8 20), .lit (.int .u8 15), .lit (.int .u8 25), .lit (.int .u8 17), .lit (.int .u8 4), .lit (.int .u8 8), .lit (.int .u8 31), .lit (.int .u8 27), .lit (.int .u8 13), .lit (.int .u8 23), .lit (.int .u8 21), .lit (.int .u8 19), .lit (.int .u8 16), .lit (.int .u8 7), .lit (.int .u8 26), .lit (.int .u8 12), .lit (.int .u8 18), .lit (.int .u8 6), .lit (.int .u8 11), .lit (.int .u8 5), .lit (.int .u8 10), .lit (.int .u8 9)]
def laid_math_bits_deBruijn64tab {H : Type} : DataW H := .agg [.lit (.int .u8 0), .lit (.int .u8 1), .lit (.int .u8 56), .lit (.int .u8 2), .lit (.int .u8 57), .lit (.int .u8 49), .lit (.int .u8 28), .lit (.int .u8 3), .lit (.int .u8 61), .lit (.int .u8 58), .lit (.int .u8 42), .lit (.int .u8 50), .lit (.int .u8 38), .lit (.int .u8 29), .lit (.int .u8 17), .lit (.int .u8 4), .lit (.int .u8 62), .lit (.int .u8 47), .lit (.int .u8 59), .lit (.int .u8 36), .lit (.int .u8 45), .lit (.int .u8 43), .lit (.int .u8 51), .lit (.int .u8 22), .lit (.int .u8 53), .lit (.int .u8 39), .lit (.int .u8 33), .lit (.int .u8 30), .lit (.int .u8 24), .lit (.int .u8 18), .lit (.int .u8 12), .lit (.int .u8 5), .lit (.int .u8 63), .lit (.int .u8 55), .lit (.int .u8 48), .lit (.int .u8 27), .lit (.int .u8 60), .lit (.int .u8 41), .lit (.int .u8 37), .lit (.int .u8 16), .lit (.int .u8 46), .lit (.int .u8 35), .lit (.int .u8 44), .lit (.int .u8 21), .lit (.int .u8 52), .lit (.int .u8 32), .lit (.int .u8 23), .lit (.int .u8 11), .lit (.int .u8 54), .lit (.int .u8 26), .lit (.int .u8 40), .lit (.int .u8 15), .lit (.int .u8 34), .lit (.int .u8 20), .lit (.int .u8 31), .lit (.int .u8 10), .lit (.int .u8 25), .lit (.int .u8 14), .lit (.int .u8 19), .lit (.int .u8 9), .lit (.int .u8 13), .lit (.int .u8 8), .lit (.int .u8 7), .lit (.int .u8 6)]
def laid_internal_strconv_uint64pow10 {H : Type} : DataW H := .agg [.lit (.int .u64 1), .lit (.int .u64 10), .lit (.int .u64 100), .lit (.int .u64 1000), .lit (.int .u64 10000), .lit (.int .u64 100000), .lit (.int .u64 1000000), .lit (.int .u64 10000000), .lit (.int .u64 100000000), .lit (.int .u64 1000000000), .lit (.int .u64 10000000000), .lit (.int .u64 100000000000), .lit (.int .u64 1000000000000), .lit (.int .u64 10000000000000), .lit (.int .u64 100000000000000), .lit (.int .u64 1000000000000000), .lit (.int .u64 10000000000000000), .lit (.int .u64 100000000000000000), .lit (.int .u64 1000000000000000000), .lit (.int .u64 10000000000000000000)]
def laid_unicode_utf8_acceptRanges {H : Type} : DataW H := .agg [.agg [.lit (.int .u8 128), .lit (.int .u8 191)], .agg [.lit (.int .u8 160), .lit (.int .u8 191)], .agg [.lit (.int .u8 128), .lit (.int .u8 159)], .agg [.lit (.int .u8 144), .lit (.int .u8 191)], .agg [.lit (.int .u8 128), .lit (.int .u8 143)], .agg [.lit (.int .u8 0), .lit (.int .u8 0)], .agg [.lit (.int .u8 0), .lit (.int .u8 0)], .agg [.lit (.int .u8 0), .lit (.int .u8 0)], .agg [.lit (.int .u8 0), .lit (.int .u8 0)], .agg [.lit (.int .u8 0), .lit (.int .u8 0)], .agg [.lit (.int .u8 0), .lit (.int .u8 0)], .agg [.lit (.int .u8 0), .lit (.int .u8 0)], .agg [.lit (.int .u8 0), .lit (.int .u8 0)], .agg [.lit (.int .u8 0), .lit (.int .u8 0)], .agg [.lit (.int .u8 0), .lit (.int .u8 0)], .agg [.lit (.int .u8 0), .lit (.int .u8 0)]]
def laid_strconv_ErrRange {H : Type} : DataW H := .iface "*errors.errorString" (.ptr (.agg [.lit (.string [118, 97, 108, 117, 101, 32, 111, 117, 116, 32, 111, 102, 32, 114, 97, 110, 103, 101])]))
def laid_strconv_ErrSyntax {H : Type} : DataW H := .iface "*errors.errorString" (.ptr (.agg [.lit (.string [105, 110, 118, 97, 108, 105, 100, 32, 115, 121, 110, 116, 97, 120])]))
/-- One of Go's own tables, pinned by name: the form's constant. -/
def laid_unicode_utf8_first : DataW Unit := Go.Pinned.utf8First

/-- 'transomlaw14.JsonreadAll': WHATEVER THE INPUT: true; the input reads as it did. -/
def jsonreadAllSpec : ChangeSpec := { name := "jsonreadAll", fn := fun _ => fun
  | [d1, d2] => { results := [.lit (.bool true)], args := [d1, d2] }
  | _ => none }
def jsonreadAllRow : OpenClaim := { program := "ytiknhkkeifemcaagreatdoor", sum := "a095d5707dda031b87b7e4fa7d2d20eebf792024cfa3f01e1ec65a928440792c", func := "transom/transomlaw14.JsonreadAll", spec := "jsonreadAll", inPlace := ["internal/bytealg.IndexByteString"], unfollowed := true, recurses := true, named := ["strconv.ErrSyntax", "strconv.ErrRange", "internal/strconv.uint64pow10", "math/bits.deBruijn32tab", "math/bits.deBruijn64tab", "unicode/utf8.first", "unicode/utf8.acceptRanges"], apart := false, laid := [("math/bits.deBruijn32tab", laid_math_bits_deBruijn32tab), ("math/bits.deBruijn64tab", laid_math_bits_deBruijn64tab), ("internal/strconv.uint64pow10", laid_internal_strconv_uint64pow10), ("unicode/utf8.acceptRanges", laid_unicode_utf8_acceptRanges), ("strconv.ErrRange", laid_strconv_ErrRange), ("strconv.ErrSyntax", laid_strconv_ErrSyntax), ("unicode/utf8.first", laid_unicode_utf8_first)] }
def JsonreadAllSaid : Prop := jsonreadAllRow.holds Tryz.pinned (OpenSpec.ofChange jsonreadAllSpec)

/-- ITS FALSE NEIGHBOUR: 'it returns false'. Refute it at one input. -/
def jsonreadAllWrong : ChangeSpec := { name := "jsonreadAll", fn := fun _ => fun
  | [d1, d2] => { results := [.lit (.bool false)], args := [d1, d2] }
  | _ => none }
def JsonreadAllWrongFalsely : Prop := jsonreadAllRow.holds Tryz.pinned (OpenSpec.ofChange jsonreadAllWrong)

/-- 'transomlaw14.JsonreadTurned': WHATEVER THE INPUT: true; the input reads as it did. -/
def jsonreadTurnedSpec : ChangeSpec := { name := "jsonreadTurned", fn := fun _ => fun
  | [d1, d2, d3, d4] => { results := [.lit (.bool true)], args := [d1, d2, d3, d4] }
  | _ => none }
def jsonreadTurnedRow : OpenClaim := { program := "ytiknhkkeifemcaagreatdoor", sum := "a095d5707dda031b87b7e4fa7d2d20eebf792024cfa3f01e1ec65a928440792c", func := "transom/transomlaw14.JsonreadTurned", spec := "jsonreadTurned", inPlace := ["internal/bytealg.IndexByteString"], unfollowed := true, recurses := true, named := ["strconv.ErrSyntax", "strconv.ErrRange", "internal/strconv.uint64pow10", "math/bits.deBruijn32tab", "math/bits.deBruijn64tab", "unicode/utf8.first", "unicode/utf8.acceptRanges"], apart := false, laid := [("math/bits.deBruijn32tab", laid_math_bits_deBruijn32tab), ("math/bits.deBruijn64tab", laid_math_bits_deBruijn64tab), ("internal/strconv.uint64pow10", laid_internal_strconv_uint64pow10), ("unicode/utf8.acceptRanges", laid_unicode_utf8_acceptRanges), ("strconv.ErrRange", laid_strconv_ErrRange), ("strconv.ErrSyntax", laid_strconv_ErrSyntax), ("unicode/utf8.first", laid_unicode_utf8_first)] }
def JsonreadTurnedSaid : Prop := jsonreadTurnedRow.holds Tryz.pinned (OpenSpec.ofChange jsonreadTurnedSpec)

/-- ITS FALSE NEIGHBOUR: 'it returns false'. Refute it at one input. -/
def jsonreadTurnedWrong : ChangeSpec := { name := "jsonreadTurned", fn := fun _ => fun
  | [d1, d2, d3, d4] => { results := [.lit (.bool false)], args := [d1, d2, d3, d4] }
  | _ => none }
def JsonreadTurnedWrongFalsely : Prop := jsonreadTurnedRow.holds Tryz.pinned (OpenSpec.ofChange jsonreadTurnedWrong)

/-- 'transomlaw14.JsonreadDressed': WHATEVER THE INPUT: true; the input reads as it did. -/
def jsonreadDressedSpec : ChangeSpec := { name := "jsonreadDressed", fn := fun _ => fun
  | [d1, d2, d3, d4, d5] => { results := [.lit (.bool true)], args := [d1, d2, d3, d4, d5] }
  | _ => none }
def jsonreadDressedRow : OpenClaim := { program := "ytiknhkkeifemcaagreatdoor", sum := "a095d5707dda031b87b7e4fa7d2d20eebf792024cfa3f01e1ec65a928440792c", func := "transom/transomlaw14.JsonreadDressed", spec := "jsonreadDressed", inPlace := ["internal/bytealg.IndexByteString"], unfollowed := true, recurses := true, named := ["strconv.ErrSyntax", "strconv.ErrRange", "internal/strconv.uint64pow10", "math/bits.deBruijn32tab", "math/bits.deBruijn64tab", "unicode/utf8.first", "unicode/utf8.acceptRanges"], apart := false, laid := [("math/bits.deBruijn32tab", laid_math_bits_deBruijn32tab), ("math/bits.deBruijn64tab", laid_math_bits_deBruijn64tab), ("internal/strconv.uint64pow10", laid_internal_strconv_uint64pow10), ("unicode/utf8.acceptRanges", laid_unicode_utf8_acceptRanges), ("strconv.ErrRange", laid_strconv_ErrRange), ("strconv.ErrSyntax", laid_strconv_ErrSyntax), ("unicode/utf8.first", laid_unicode_utf8_first)] }
def JsonreadDressedSaid : Prop := jsonreadDressedRow.holds Tryz.pinned (OpenSpec.ofChange jsonreadDressedSpec)

/-- ITS FALSE NEIGHBOUR: 'it returns false'. Refute it at one input. -/
def jsonreadDressedWrong : ChangeSpec := { name := "jsonreadDressed", fn := fun _ => fun
  | [d1, d2, d3, d4, d5] => { results := [.lit (.bool false)], args := [d1, d2, d3, d4, d5] }
  | _ => none }
def JsonreadDressedWrongFalsely : Prop := jsonreadDressedRow.holds Tryz.pinned (OpenSpec.ofChange jsonreadDressedWrong)

/-- 'transomlaw14.JsonreadBack': WHATEVER THE INPUT: true; the input reads as it did. -/
def jsonreadBackSpec : ChangeSpec := { name := "jsonreadBack", fn := fun _ => fun
  | [d1, d2] => { results := [.lit (.bool true)], args := [d1, d2] }
  | _ => none }
def jsonreadBackRow : OpenClaim := { program := "ytiknhkkeifemcaagreatdoor", sum := "a095d5707dda031b87b7e4fa7d2d20eebf792024cfa3f01e1ec65a928440792c", func := "transom/transomlaw14.JsonreadBack", spec := "jsonreadBack", inPlace := ["internal/bytealg.IndexByteString"], unfollowed := true, recurses := true, named := ["strconv.ErrSyntax", "strconv.ErrRange", "internal/strconv.uint64pow10", "math/bits.deBruijn32tab", "math/bits.deBruijn64tab", "unicode/utf8.first", "unicode/utf8.acceptRanges"], apart := false, laid := [("math/bits.deBruijn32tab", laid_math_bits_deBruijn32tab), ("math/bits.deBruijn64tab", laid_math_bits_deBruijn64tab), ("internal/strconv.uint64pow10", laid_internal_strconv_uint64pow10), ("unicode/utf8.acceptRanges", laid_unicode_utf8_acceptRanges), ("strconv.ErrRange", laid_strconv_ErrRange), ("strconv.ErrSyntax", laid_strconv_ErrSyntax), ("unicode/utf8.first", laid_unicode_utf8_first)] }
def JsonreadBackSaid : Prop := jsonreadBackRow.holds Tryz.pinned (OpenSpec.ofChange jsonreadBackSpec)

/-- ITS FALSE NEIGHBOUR: 'it returns false'. Refute it at one input. -/
def jsonreadBackWrong : ChangeSpec := { name := "jsonreadBack", fn := fun _ => fun
  | [d1, d2] => { results := [.lit (.bool false)], args := [d1, d2] }
  | _ => none }
def JsonreadBackWrongFalsely : Prop := jsonreadBackRow.holds Tryz.pinned (OpenSpec.ofChange jsonreadBackWrong)

/-- 'transomlaw14.JsonreadDeep': WHATEVER THE INPUT: true; the input reads as it did. -/
def jsonreadDeepSpec : ChangeSpec := { name := "jsonreadDeep", fn := fun _ => fun
  | [d] => { results := [.lit (.bool true)], args := [d] }
  | _ => none }
def jsonreadDeepRow : OpenClaim := { program := "ytiknhkkeifemcaagreatdoor", sum := "a095d5707dda031b87b7e4fa7d2d20eebf792024cfa3f01e1ec65a928440792c", func := "transom/transomlaw14.JsonreadDeep", spec := "jsonreadDeep", inPlace := ["internal/bytealg.IndexByteString"], unfollowed := true, recurses := true, named := ["strconv.ErrSyntax", "strconv.ErrRange", "internal/strconv.uint64pow10", "math/bits.deBruijn32tab", "math/bits.deBruijn64tab", "unicode/utf8.first", "unicode/utf8.acceptRanges"], apart := false, laid := [("math/bits.deBruijn32tab", laid_math_bits_deBruijn32tab), ("math/bits.deBruijn64tab", laid_math_bits_deBruijn64tab), ("internal/strconv.uint64pow10", laid_internal_strconv_uint64pow10), ("unicode/utf8.acceptRanges", laid_unicode_utf8_acceptRanges), ("strconv.ErrRange", laid_strconv_ErrRange), ("strconv.ErrSyntax", laid_strconv_ErrSyntax), ("unicode/utf8.first", laid_unicode_utf8_first)] }
def JsonreadDeepSaid : Prop := jsonreadDeepRow.holds Tryz.pinned (OpenSpec.ofChange jsonreadDeepSpec)

/-- ITS FALSE NEIGHBOUR: 'it returns false'. Refute it at one input. -/
def jsonreadDeepWrong : ChangeSpec := { name := "jsonreadDeep", fn := fun _ => fun
  | [d] => { results := [.lit (.bool false)], args := [d] }
  | _ => none }
def JsonreadDeepWrongFalsely : Prop := jsonreadDeepRow.holds Tryz.pinned (OpenSpec.ofChange jsonreadDeepWrong)

/-- 'transomlaw14.JsonreadTypes': WHATEVER THE INPUT: true; the input reads as it did. -/
def jsonreadTypesSpec : ChangeSpec := { name := "jsonreadTypes", fn := fun _ => fun
  | [d1, d2, d3] => { results := [.lit (.bool true)], args := [d1, d2, d3] }
  | _ => none }
def jsonreadTypesRow : OpenClaim := { program := "ytiknhkkeifemcaagreatdoor", sum := "a095d5707dda031b87b7e4fa7d2d20eebf792024cfa3f01e1ec65a928440792c", func := "transom/transomlaw14.JsonreadTypes", spec := "jsonreadTypes", inPlace := ["internal/bytealg.IndexByteString"], unfollowed := true, recurses := true, named := ["strconv.ErrSyntax", "strconv.ErrRange", "internal/strconv.uint64pow10", "math/bits.deBruijn32tab", "math/bits.deBruijn64tab", "unicode/utf8.first", "unicode/utf8.acceptRanges"], apart := false, laid := [("math/bits.deBruijn32tab", laid_math_bits_deBruijn32tab), ("math/bits.deBruijn64tab", laid_math_bits_deBruijn64tab), ("internal/strconv.uint64pow10", laid_internal_strconv_uint64pow10), ("unicode/utf8.acceptRanges", laid_unicode_utf8_acceptRanges), ("strconv.ErrRange", laid_strconv_ErrRange), ("strconv.ErrSyntax", laid_strconv_ErrSyntax), ("unicode/utf8.first", laid_unicode_utf8_first)] }
def JsonreadTypesSaid : Prop := jsonreadTypesRow.holds Tryz.pinned (OpenSpec.ofChange jsonreadTypesSpec)

/-- ITS FALSE NEIGHBOUR: 'it returns false'. Refute it at one input. -/
def jsonreadTypesWrong : ChangeSpec := { name := "jsonreadTypes", fn := fun _ => fun
  | [d1, d2, d3] => { results := [.lit (.bool false)], args := [d1, d2, d3] }
  | _ => none }
def JsonreadTypesWrongFalsely : Prop := jsonreadTypesRow.holds Tryz.pinned (OpenSpec.ofChange jsonreadTypesWrong)

/-- 'transomlaw15.JsonwriteAll': WHATEVER THE INPUT: true; the input reads as it did. -/
def jsonwriteAllSpec : ChangeSpec := { name := "jsonwriteAll", fn := fun _ => fun
  | [d1, d2] => { results := [.lit (.bool true)], args := [d1, d2] }
  | _ => none }
def jsonwriteAllRow : OpenClaim := { program := "ytiknhkkeifemcaagreatdoor", sum := "a095d5707dda031b87b7e4fa7d2d20eebf792024cfa3f01e1ec65a928440792c", func := "transom/transomlaw15.JsonwriteAll", spec := "jsonwriteAll", unfollowed := true, recurses := true, named := ["internal/strconv.uint64pow10", "math/bits.deBruijn32tab", "math/bits.deBruijn64tab"], apart := false, laid := [("math/bits.deBruijn32tab", laid_math_bits_deBruijn32tab), ("math/bits.deBruijn64tab", laid_math_bits_deBruijn64tab), ("internal/strconv.uint64pow10", laid_internal_strconv_uint64pow10)] }
def JsonwriteAllSaid : Prop := jsonwriteAllRow.holds Tryz.pinned (OpenSpec.ofChange jsonwriteAllSpec)

/-- ITS FALSE NEIGHBOUR: 'it returns false'. Refute it at one input. -/
def jsonwriteAllWrong : ChangeSpec := { name := "jsonwriteAll", fn := fun _ => fun
  | [d1, d2] => { results := [.lit (.bool false)], args := [d1, d2] }
  | _ => none }
def JsonwriteAllWrongFalsely : Prop := jsonwriteAllRow.holds Tryz.pinned (OpenSpec.ofChange jsonwriteAllWrong)

/-- 'transomlaw15.JsonwriteOnce': WHATEVER THE INPUT: true; the input reads as it did. -/
def jsonwriteOnceSpec : ChangeSpec := { name := "jsonwriteOnce", fn := fun _ => fun
  | [d1, d2] => { results := [.lit (.bool true)], args := [d1, d2] }
  | _ => none }
def jsonwriteOnceRow : OpenClaim := { program := "ytiknhkkeifemcaagreatdoor", sum := "a095d5707dda031b87b7e4fa7d2d20eebf792024cfa3f01e1ec65a928440792c", func := "transom/transomlaw15.JsonwriteOnce", spec := "jsonwriteOnce", inPlace := ["internal/bytealg.IndexByteString"], unfollowed := true, recurses := true, named := ["internal/strconv.uint64pow10", "math/bits.deBruijn32tab", "math/bits.deBruijn64tab", "strconv.ErrSyntax", "strconv.ErrRange", "unicode/utf8.first", "unicode/utf8.acceptRanges"], apart := false, laid := [("math/bits.deBruijn32tab", laid_math_bits_deBruijn32tab), ("math/bits.deBruijn64tab", laid_math_bits_deBruijn64tab), ("internal/strconv.uint64pow10", laid_internal_strconv_uint64pow10), ("unicode/utf8.acceptRanges", laid_unicode_utf8_acceptRanges), ("strconv.ErrRange", laid_strconv_ErrRange), ("strconv.ErrSyntax", laid_strconv_ErrSyntax), ("unicode/utf8.first", laid_unicode_utf8_first)] }
def JsonwriteOnceSaid : Prop := jsonwriteOnceRow.holds Tryz.pinned (OpenSpec.ofChange jsonwriteOnceSpec)

/-- ITS FALSE NEIGHBOUR: 'it returns false'. Refute it at one input. -/
def jsonwriteOnceWrong : ChangeSpec := { name := "jsonwriteOnce", fn := fun _ => fun
  | [d1, d2] => { results := [.lit (.bool false)], args := [d1, d2] }
  | _ => none }
def JsonwriteOnceWrongFalsely : Prop := jsonwriteOnceRow.holds Tryz.pinned (OpenSpec.ofChange jsonwriteOnceWrong)

/-- 'transomlaw15.JsonwriteNumbers': WHATEVER THE INPUT: true; the input reads as it did. -/
def jsonwriteNumbersSpec : ChangeSpec := { name := "jsonwriteNumbers", fn := fun _ => fun
  | [d1, d2] => { results := [.lit (.bool true)], args := [d1, d2] }
  | _ => none }
def jsonwriteNumbersRow : OpenClaim := { program := "ytiknhkkeifemcaagreatdoor", sum := "a095d5707dda031b87b7e4fa7d2d20eebf792024cfa3f01e1ec65a928440792c", func := "transom/transomlaw15.JsonwriteNumbers", spec := "jsonwriteNumbers", unfollowed := true, recurses := true, named := ["internal/strconv.uint64pow10", "math/bits.deBruijn32tab", "math/bits.deBruijn64tab"], apart := false, laid := [("math/bits.deBruijn32tab", laid_math_bits_deBruijn32tab), ("math/bits.deBruijn64tab", laid_math_bits_deBruijn64tab), ("internal/strconv.uint64pow10", laid_internal_strconv_uint64pow10)] }
def JsonwriteNumbersSaid : Prop := jsonwriteNumbersRow.holds Tryz.pinned (OpenSpec.ofChange jsonwriteNumbersSpec)

/-- ITS FALSE NEIGHBOUR: 'it returns false'. Refute it at one input. -/
def jsonwriteNumbersWrong : ChangeSpec := { name := "jsonwriteNumbers", fn := fun _ => fun
  | [d1, d2] => { results := [.lit (.bool false)], args := [d1, d2] }
  | _ => none }
def JsonwriteNumbersWrongFalsely : Prop := jsonwriteNumbersRow.holds Tryz.pinned (OpenSpec.ofChange jsonwriteNumbersWrong)

/-- 'transomlaw15.JsonwritePieces': WHATEVER THE INPUT: true; the input reads as it did. -/
def jsonwritePiecesSpec : ChangeSpec := { name := "jsonwritePieces", fn := fun _ => fun
  | [d1, d2] => { results := [.lit (.bool true)], args := [d1, d2] }
  | _ => none }
def jsonwritePiecesRow : OpenClaim := { program := "ytiknhkkeifemcaagreatdoor", sum := "a095d5707dda031b87b7e4fa7d2d20eebf792024cfa3f01e1ec65a928440792c", func := "transom/transomlaw15.JsonwritePieces", spec := "jsonwritePieces", unfollowed := true, recurses := true, named := ["internal/strconv.uint64pow10", "math/bits.deBruijn32tab", "math/bits.deBruijn64tab"], apart := false, laid := [("math/bits.deBruijn32tab", laid_math_bits_deBruijn32tab), ("math/bits.deBruijn64tab", laid_math_bits_deBruijn64tab), ("internal/strconv.uint64pow10", laid_internal_strconv_uint64pow10)] }
def JsonwritePiecesSaid : Prop := jsonwritePiecesRow.holds Tryz.pinned (OpenSpec.ofChange jsonwritePiecesSpec)

/-- ITS FALSE NEIGHBOUR: 'it returns false'. Refute it at one input. -/
def jsonwritePiecesWrong : ChangeSpec := { name := "jsonwritePieces", fn := fun _ => fun
  | [d1, d2] => { results := [.lit (.bool false)], args := [d1, d2] }
  | _ => none }
def JsonwritePiecesWrongFalsely : Prop := jsonwritePiecesRow.holds Tryz.pinned (OpenSpec.ofChange jsonwritePiecesWrong)

/-- 'transomlaw15.JsonwriteMeters': WHATEVER THE INPUT: true; the input reads as it did. -/
def jsonwriteMetersSpec : ChangeSpec := { name := "jsonwriteMeters", fn := fun _ => fun
  | [d1, d2, d3] => { results := [.lit (.bool true)], args := [d1, d2, d3] }
  | _ => none }
def jsonwriteMetersRow : OpenClaim := { program := "ytiknhkkeifemcaagreatdoor", sum := "a095d5707dda031b87b7e4fa7d2d20eebf792024cfa3f01e1ec65a928440792c", func := "transom/transomlaw15.JsonwriteMeters", spec := "jsonwriteMeters", unfollowed := true, recurses := true, named := ["internal/strconv.uint64pow10", "math/bits.deBruijn32tab", "math/bits.deBruijn64tab"], apart := false, laid := [("math/bits.deBruijn32tab", laid_math_bits_deBruijn32tab), ("math/bits.deBruijn64tab", laid_math_bits_deBruijn64tab), ("internal/strconv.uint64pow10", laid_internal_strconv_uint64pow10)] }
def JsonwriteMetersSaid : Prop := jsonwriteMetersRow.holds Tryz.pinned (OpenSpec.ofChange jsonwriteMetersSpec)

/-- ITS FALSE NEIGHBOUR: 'it returns false'. Refute it at one input. -/
def jsonwriteMetersWrong : ChangeSpec := { name := "jsonwriteMeters", fn := fun _ => fun
  | [d1, d2, d3] => { results := [.lit (.bool false)], args := [d1, d2, d3] }
  | _ => none }
def JsonwriteMetersWrongFalsely : Prop := jsonwriteMetersRow.holds Tryz.pinned (OpenSpec.ofChange jsonwriteMetersWrong)

/- THE SECOND FORM. 'bulk': how many values and letters a reading holds, each counted each time it is reached (what is shared counts as often as it is met; a slice's spare places count too). A statement '..UptoSaid' is the law's where the arguments, and the package variables that the reading takes, are together of bulk at most 1048576: NARROWER than '..Said'. Prove '..Said' where nothing that the law and all that it calls make is longer than what came in: it says more and counts as full. Else prove '..UptoSaid'. A law counts once. -/
mutual
def uptoBulk {H : Type} : DataW H → Nat
  | .lit (.string bytes) => bytes.length + 1
  | .lit _ => 1
  | .nil => 1
  | .ptr d => uptoBulk d + 1
  | .slice elems spare => uptoBulkAll elems + uptoBulkAll spare + 1
  | .agg parts => uptoBulkAll parts + 1
  | .iface _ d => uptoBulk d + 1
  | .map entries => uptoBulkEntries entries + 1
  | .held _ => 1
def uptoBulkAll {H : Type} : List (DataW H) → Nat
  | [] => 0
  | d :: r => uptoBulk d + uptoBulkAll r
def uptoBulkEntries {H : Type} : List (Lit × DataW H) → Nat
  | [] => 0
  | x :: r => uptoBulkEntry x + uptoBulkEntries r
def uptoBulkEntry {H : Type} : Lit × DataW H → Nat
  | (.string bytes, d) => bytes.length + uptoBulk d + 1
  | (_, d) => uptoBulk d + 1
 end
def uptoSmall : (H : Type) → List (DataW H) → Bool := fun _ ds => decide (uptoBulkAll ds ≤ 1048576)
def OpenSpec.upto (s : _root_.Go.ChangeSpec) : _root_.Go.OpenSpec := { _root_.Go.OpenSpec.ofChange s with cond := some uptoSmall }

/-- 'transomlaw14.JsonreadAll', WHERE WHAT IT READS IS OF BULK AT MOST 1048576: true; the input reads as it did. -/
def jsonreadAllUptoRow : OpenClaim := { program := "ytiknhkkeifemcaagreatdoor", sum := "a095d5707dda031b87b7e4fa7d2d20eebf792024cfa3f01e1ec65a928440792c", func := "transom/transomlaw14.JsonreadAll", spec := "jsonreadAll", inPlace := ["internal/bytealg.IndexByteString"], unfollowed := true, recurses := true, named := ["strconv.ErrSyntax", "strconv.ErrRange", "internal/strconv.uint64pow10", "math/bits.deBruijn32tab", "math/bits.deBruijn64tab", "unicode/utf8.first", "unicode/utf8.acceptRanges"], apart := false, laid := [("math/bits.deBruijn32tab", laid_math_bits_deBruijn32tab), ("math/bits.deBruijn64tab", laid_math_bits_deBruijn64tab), ("internal/strconv.uint64pow10", laid_internal_strconv_uint64pow10), ("unicode/utf8.acceptRanges", laid_unicode_utf8_acceptRanges), ("strconv.ErrRange", laid_strconv_ErrRange), ("strconv.ErrSyntax", laid_strconv_ErrSyntax), ("unicode/utf8.first", laid_unicode_utf8_first)], narrowed := true }
def JsonreadAllUptoSaid : Prop := jsonreadAllUptoRow.holds Tryz.pinned (OpenSpec.upto jsonreadAllSpec)

/-- 'transomlaw14.JsonreadTurned', WHERE WHAT IT READS IS OF BULK AT MOST 1048576: true; the input reads as it did. -/
def jsonreadTurnedUptoRow : OpenClaim := { program := "ytiknhkkeifemcaagreatdoor", sum := "a095d5707dda031b87b7e4fa7d2d20eebf792024cfa3f01e1ec65a928440792c", func := "transom/transomlaw14.JsonreadTurned", spec := "jsonreadTurned", inPlace := ["internal/bytealg.IndexByteString"], unfollowed := true, recurses := true, named := ["strconv.ErrSyntax", "strconv.ErrRange", "internal/strconv.uint64pow10", "math/bits.deBruijn32tab", "math/bits.deBruijn64tab", "unicode/utf8.first", "unicode/utf8.acceptRanges"], apart := false, laid := [("math/bits.deBruijn32tab", laid_math_bits_deBruijn32tab), ("math/bits.deBruijn64tab", laid_math_bits_deBruijn64tab), ("internal/strconv.uint64pow10", laid_internal_strconv_uint64pow10), ("unicode/utf8.acceptRanges", laid_unicode_utf8_acceptRanges), ("strconv.ErrRange", laid_strconv_ErrRange), ("strconv.ErrSyntax", laid_strconv_ErrSyntax), ("unicode/utf8.first", laid_unicode_utf8_first)], narrowed := true }
def JsonreadTurnedUptoSaid : Prop := jsonreadTurnedUptoRow.holds Tryz.pinned (OpenSpec.upto jsonreadTurnedSpec)

/-- 'transomlaw14.JsonreadDressed', WHERE WHAT IT READS IS OF BULK AT MOST 1048576: true; the input reads as it did. -/
def jsonreadDressedUptoRow : OpenClaim := { program := "ytiknhkkeifemcaagreatdoor", sum := "a095d5707dda031b87b7e4fa7d2d20eebf792024cfa3f01e1ec65a928440792c", func := "transom/transomlaw14.JsonreadDressed", spec := "jsonreadDressed", inPlace := ["internal/bytealg.IndexByteString"], unfollowed := true, recurses := true, named := ["strconv.ErrSyntax", "strconv.ErrRange", "internal/strconv.uint64pow10", "math/bits.deBruijn32tab", "math/bits.deBruijn64tab", "unicode/utf8.first", "unicode/utf8.acceptRanges"], apart := false, laid := [("math/bits.deBruijn32tab", laid_math_bits_deBruijn32tab), ("math/bits.deBruijn64tab", laid_math_bits_deBruijn64tab), ("internal/strconv.uint64pow10", laid_internal_strconv_uint64pow10), ("unicode/utf8.acceptRanges", laid_unicode_utf8_acceptRanges), ("strconv.ErrRange", laid_strconv_ErrRange), ("strconv.ErrSyntax", laid_strconv_ErrSyntax), ("unicode/utf8.first", laid_unicode_utf8_first)], narrowed := true }
def JsonreadDressedUptoSaid : Prop := jsonreadDressedUptoRow.holds Tryz.pinned (OpenSpec.upto jsonreadDressedSpec)

/-- 'transomlaw14.JsonreadBack', WHERE WHAT IT READS IS OF BULK AT MOST 1048576: true; the input reads as it did. -/
def jsonreadBackUptoRow : OpenClaim := { program := "ytiknhkkeifemcaagreatdoor", sum := "a095d5707dda031b87b7e4fa7d2d20eebf792024cfa3f01e1ec65a928440792c", func := "transom/transomlaw14.JsonreadBack", spec := "jsonreadBack", inPlace := ["internal/bytealg.IndexByteString"], unfollowed := true, recurses := true, named := ["strconv.ErrSyntax", "strconv.ErrRange", "internal/strconv.uint64pow10", "math/bits.deBruijn32tab", "math/bits.deBruijn64tab", "unicode/utf8.first", "unicode/utf8.acceptRanges"], apart := false, laid := [("math/bits.deBruijn32tab", laid_math_bits_deBruijn32tab), ("math/bits.deBruijn64tab", laid_math_bits_deBruijn64tab), ("internal/strconv.uint64pow10", laid_internal_strconv_uint64pow10), ("unicode/utf8.acceptRanges", laid_unicode_utf8_acceptRanges), ("strconv.ErrRange", laid_strconv_ErrRange), ("strconv.ErrSyntax", laid_strconv_ErrSyntax), ("unicode/utf8.first", laid_unicode_utf8_first)], narrowed := true }
def JsonreadBackUptoSaid : Prop := jsonreadBackUptoRow.holds Tryz.pinned (OpenSpec.upto jsonreadBackSpec)

/-- 'transomlaw14.JsonreadDeep', WHERE WHAT IT READS IS OF BULK AT MOST 1048576: true; the input reads as it did. -/
def jsonreadDeepUptoRow : OpenClaim := { program := "ytiknhkkeifemcaagreatdoor", sum := "a095d5707dda031b87b7e4fa7d2d20eebf792024cfa3f01e1ec65a928440792c", func := "transom/transomlaw14.JsonreadDeep", spec := "jsonreadDeep", inPlace := ["internal/bytealg.IndexByteString"], unfollowed := true, recurses := true, named := ["strconv.ErrSyntax", "strconv.ErrRange", "internal/strconv.uint64pow10", "math/bits.deBruijn32tab", "math/bits.deBruijn64tab", "unicode/utf8.first", "unicode/utf8.acceptRanges"], apart := false, laid := [("math/bits.deBruijn32tab", laid_math_bits_deBruijn32tab), ("math/bits.deBruijn64tab", laid_math_bits_deBruijn64tab), ("internal/strconv.uint64pow10", laid_internal_strconv_uint64pow10), ("unicode/utf8.acceptRanges", laid_unicode_utf8_acceptRanges), ("strconv.ErrRange", laid_strconv_ErrRange), ("strconv.ErrSyntax", laid_strconv_ErrSyntax), ("unicode/utf8.first", laid_unicode_utf8_first)], narrowed := true }
def JsonreadDeepUptoSaid : Prop := jsonreadDeepUptoRow.holds Tryz.pinned (OpenSpec.upto jsonreadDeepSpec)

/-- 'transomlaw14.JsonreadTypes', WHERE WHAT IT READS IS OF BULK AT MOST 1048576: true; the input reads as it did. -/
def jsonreadTypesUptoRow : OpenClaim := { program := "ytiknhkkeifemcaagreatdoor", sum := "a095d5707dda031b87b7e4fa7d2d20eebf792024cfa3f01e1ec65a928440792c", func := "transom/transomlaw14.JsonreadTypes", spec := "jsonreadTypes", inPlace := ["internal/bytealg.IndexByteString"], unfollowed := true, recurses := true, named := ["strconv.ErrSyntax", "strconv.ErrRange", "internal/strconv.uint64pow10", "math/bits.deBruijn32tab", "math/bits.deBruijn64tab", "unicode/utf8.first", "unicode/utf8.acceptRanges"], apart := false, laid := [("math/bits.deBruijn32tab", laid_math_bits_deBruijn32tab), ("math/bits.deBruijn64tab", laid_math_bits_deBruijn64tab), ("internal/strconv.uint64pow10", laid_internal_strconv_uint64pow10), ("unicode/utf8.acceptRanges", laid_unicode_utf8_acceptRanges), ("strconv.ErrRange", laid_strconv_ErrRange), ("strconv.ErrSyntax", laid_strconv_ErrSyntax), ("unicode/utf8.first", laid_unicode_utf8_first)], narrowed := true }
def JsonreadTypesUptoSaid : Prop := jsonreadTypesUptoRow.holds Tryz.pinned (OpenSpec.upto jsonreadTypesSpec)

/-- 'transomlaw15.JsonwriteAll', WHERE WHAT IT READS IS OF BULK AT MOST 1048576: true; the input reads as it did. -/
def jsonwriteAllUptoRow : OpenClaim := { program := "ytiknhkkeifemcaagreatdoor", sum := "a095d5707dda031b87b7e4fa7d2d20eebf792024cfa3f01e1ec65a928440792c", func := "transom/transomlaw15.JsonwriteAll", spec := "jsonwriteAll", unfollowed := true, recurses := true, named := ["internal/strconv.uint64pow10", "math/bits.deBruijn32tab", "math/bits.deBruijn64tab"], apart := false, laid := [("math/bits.deBruijn32tab", laid_math_bits_deBruijn32tab), ("math/bits.deBruijn64tab", laid_math_bits_deBruijn64tab), ("internal/strconv.uint64pow10", laid_internal_strconv_uint64pow10)], narrowed := true }
def JsonwriteAllUptoSaid : Prop := jsonwriteAllUptoRow.holds Tryz.pinned (OpenSpec.upto jsonwriteAllSpec)

/-- 'transomlaw15.JsonwriteOnce', WHERE WHAT IT READS IS OF BULK AT MOST 1048576: true; the input reads as it did. -/
def jsonwriteOnceUptoRow : OpenClaim := { program := "ytiknhkkeifemcaagreatdoor", sum := "a095d5707dda031b87b7e4fa7d2d20eebf792024cfa3f01e1ec65a928440792c", func := "transom/transomlaw15.JsonwriteOnce", spec := "jsonwriteOnce", inPlace := ["internal/bytealg.IndexByteString"], unfollowed := true, recurses := true, named := ["internal/strconv.uint64pow10", "math/bits.deBruijn32tab", "math/bits.deBruijn64tab", "strconv.ErrSyntax", "strconv.ErrRange", "unicode/utf8.first", "unicode/utf8.acceptRanges"], apart := false, laid := [("math/bits.deBruijn32tab", laid_math_bits_deBruijn32tab), ("math/bits.deBruijn64tab", laid_math_bits_deBruijn64tab), ("internal/strconv.uint64pow10", laid_internal_strconv_uint64pow10), ("unicode/utf8.acceptRanges", laid_unicode_utf8_acceptRanges), ("strconv.ErrRange", laid_strconv_ErrRange), ("strconv.ErrSyntax", laid_strconv_ErrSyntax), ("unicode/utf8.first", laid_unicode_utf8_first)], narrowed := true }
def JsonwriteOnceUptoSaid : Prop := jsonwriteOnceUptoRow.holds Tryz.pinned (OpenSpec.upto jsonwriteOnceSpec)

/-- 'transomlaw15.JsonwriteNumbers', WHERE WHAT IT READS IS OF BULK AT MOST 1048576: true; the input reads as it did. -/
def jsonwriteNumbersUptoRow : OpenClaim := { program := "ytiknhkkeifemcaagreatdoor", sum := "a095d5707dda031b87b7e4fa7d2d20eebf792024cfa3f01e1ec65a928440792c", func := "transom/transomlaw15.JsonwriteNumbers", spec := "jsonwriteNumbers", unfollowed := true, recurses := true, named := ["internal/strconv.uint64pow10", "math/bits.deBruijn32tab", "math/bits.deBruijn64tab"], apart := false, laid := [("math/bits.deBruijn32tab", laid_math_bits_deBruijn32tab), ("math/bits.deBruijn64tab", laid_math_bits_deBruijn64tab), ("internal/strconv.uint64pow10", laid_internal_strconv_uint64pow10)], narrowed := true }
def JsonwriteNumbersUptoSaid : Prop := jsonwriteNumbersUptoRow.holds Tryz.pinned (OpenSpec.upto jsonwriteNumbersSpec)

/-- 'transomlaw15.JsonwritePieces', WHERE WHAT IT READS IS OF BULK AT MOST 1048576: true; the input reads as it did. -/
def jsonwritePiecesUptoRow : OpenClaim := { program := "ytiknhkkeifemcaagreatdoor", sum := "a095d5707dda031b87b7e4fa7d2d20eebf792024cfa3f01e1ec65a928440792c", func := "transom/transomlaw15.JsonwritePieces", spec := "jsonwritePieces", unfollowed := true, recurses := true, named := ["internal/strconv.uint64pow10", "math/bits.deBruijn32tab", "math/bits.deBruijn64tab"], apart := false, laid := [("math/bits.deBruijn32tab", laid_math_bits_deBruijn32tab), ("math/bits.deBruijn64tab", laid_math_bits_deBruijn64tab), ("internal/strconv.uint64pow10", laid_internal_strconv_uint64pow10)], narrowed := true }
def JsonwritePiecesUptoSaid : Prop := jsonwritePiecesUptoRow.holds Tryz.pinned (OpenSpec.upto jsonwritePiecesSpec)

/-- 'transomlaw15.JsonwriteMeters', WHERE WHAT IT READS IS OF BULK AT MOST 1048576: true; the input reads as it did. -/
def jsonwriteMetersUptoRow : OpenClaim := { program := "ytiknhkkeifemcaagreatdoor", sum := "a095d5707dda031b87b7e4fa7d2d20eebf792024cfa3f01e1ec65a928440792c", func := "transom/transomlaw15.JsonwriteMeters", spec := "jsonwriteMeters", unfollowed := true, recurses := true, named := ["internal/strconv.uint64pow10", "math/bits.deBruijn32tab", "math/bits.deBruijn64tab"], apart := false, laid := [("math/bits.deBruijn32tab", laid_math_bits_deBruijn32tab), ("math/bits.deBruijn64tab", laid_math_bits_deBruijn64tab), ("internal/strconv.uint64pow10", laid_internal_strconv_uint64pow10)], narrowed := true }
def JsonwriteMetersUptoSaid : Prop := jsonwriteMetersUptoRow.holds Tryz.pinned (OpenSpec.upto jsonwriteMetersSpec)

end Rows
end Go.Proofs.YtiknhkkeifemcaaGreatDoor
