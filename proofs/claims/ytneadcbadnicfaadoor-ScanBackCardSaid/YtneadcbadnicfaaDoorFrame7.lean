/-
  A world in which the seven variables that the rows list lie as the program's text lays them; and what the walks ask of them, out of that condition. No conditions.
-/
import Derived.Test.YtneadcbadnicfaaDoorBase
import Derived.Test.YtneadcbadnicfaaDoorLexNumber
import Derived.Lib.LaidTab
import Derived.Stop.LaidErr
namespace Go.Proofs.YtneadcbadnicfaaDoor
open Go.ChangeShapes Go.WideShapes Go.ChangeAt Go.RowKit

/-- The cells of a datum that is a row of numbers. -/
def numCells : DataW Unit → Array Value
  | .agg parts => (parts.filterMap fun | .lit (.int k n) => some (Value.int k n) | _ => none).toArray
  | _ => #[]
/-- A variable's block, with these cells. -/
def withCells (cs : Array Value) : Obj → Obj
  | .cells _ t frozen => .cells cs t frozen
  | o => o
noncomputable def lowBlock : Nat := (World.holding Tryd.prog default ⟨#[], #[], []⟩).heap.size
/-- The settled world, the seven variables holding what the program's text lays. -/
noncomputable def laidWorld (os : Os) : World :=
  { World.holding Tryd.prog os ⟨#[.cells #[.string ⟨#[118, 97, 108, 117, 101, 32, 111, 117, 116, 32, 111, 102, 32, 114, 97, 110, 103, 101]⟩] 121, .cells #[.string ⟨#[105, 110, 118, 97, 108, 105, 100, 32, 115, 121, 110, 116, 97, 120]⟩] 121], #[], []⟩ with
    heap := (((((((World.holding Tryd.prog os ⟨#[.cells #[.string ⟨#[118, 97, 108, 117, 101, 32, 111, 117, 116, 32, 111, 102, 32, 114, 97, 110, 103, 101]⟩] 121, .cells #[.string ⟨#[105, 110, 118, 97, 108, 105, 100, 32, 115, 121, 110, 116, 97, 120]⟩] 121], #[], []⟩).heap.modify 0 (withCells (Lib.firstTab.map (Value.int .u8)).toArray)).modify 1 (withCells ((List.range 32).map fun i => Value.int .u8 (if i % 2 = 0 then Lib.accLo (i / 2) else Lib.accHi (i / 2))).toArray)).modify
      5 (withCells (numCells Rows.laid_internal_strconv_uint64pow10))).modify
      6 (withCells (numCells Rows.laid_math_bits_deBruijn32tab))).modify
      7 (withCells (numCells Rows.laid_math_bits_deBruijn64tab))).modify
      3 (withCells #[.iface 119 (.pointer (some ⟨lowBlock, 0, none⟩))])).modify
      2 (withCells #[.iface 119 (.pointer (some ⟨lowBlock + 1, 0, none⟩))]) }
/-- The list that each row lists. -/
abbrev laid7 : List (String × DataW Unit) := [("math/bits.deBruijn32tab", Rows.laid_math_bits_deBruijn32tab), ("math/bits.deBruijn64tab", Rows.laid_math_bits_deBruijn64tab), ("internal/strconv.uint64pow10", Rows.laid_internal_strconv_uint64pow10), ("unicode/utf8.acceptRanges", Rows.laid_unicode_utf8_acceptRanges), ("strconv.ErrRange", Rows.laid_strconv_ErrRange), ("strconv.ErrSyntax", Rows.laid_strconv_ErrSyntax), ("unicode/utf8.first", Rows.laid_unicode_utf8_first)]
theorem laid7_met (os : Os) (args : Array Value) : laidMet Tryd.prog laid7 ((laidWorld os).forCall (fun _ _ => 0) ⟨#[], args, []⟩).memory :=
  laidMet_of_run' 8 (by kernel_rfl) (by kernel_rfl)
theorem laid7_plain {W : World} (h : laidMetH Tryd.prog laid7 W) : laidMet Tryd.prog laid7 W := h
theorem tabs_of_laid7 {W : World} (h : laidMetH Tryd.prog laid7 W) : Tabs W := by
  have h' := laid7_plain h
  refine utf8Tabs_of_readsT u8types u8extra ?_ ?_
  · rw [← first_is]; exact Lib.laidMet.reads h' (by simp)
  · rw [← accept_is]; exact Lib.laidMet.reads h' (by simp)
theorem err_star : "*" ++ "errors.errorString" = "*errors.errorString" := by decide
theorem err_row (u : TypeId) (h : Tryd.prog.typeName? 3 u = some "*errors.errorString") : u = 119 :=
  typeName_ptr_named (nm := "errors.errorString") (by rw [err_star]; kernel_rfl) (by kernel_rfl) (by decide) u (by rw [err_star]; exact h)
theorem errV_of_laid7 {W : World} (h : laidMetH Tryd.prog laid7 W) : ErrV W := by
  have h' := laid7_plain h
  obtain ⟨a, s, hv, _, _, _⟩ := laid_sentinel (g := 3) (ti := 88) h'.tail.tail.tail.tail (by kernel_rfl) (by kernel_rfl) Tryd.underlying88 err_row Tryd.underlying119 Tryd.underlying121 rfl rfl Tryd.underlying9 (by kernel_rfl) (by kernel_rfl)
  have hg : Tryd.prog.globalNamed "strconv.ErrRange" = some 3 := by kernel_rfl
  exact ⟨_, _, by simpa using World.var?_cell hg hv 0⟩
end Go.Proofs.YtneadcbadnicfaaDoor
