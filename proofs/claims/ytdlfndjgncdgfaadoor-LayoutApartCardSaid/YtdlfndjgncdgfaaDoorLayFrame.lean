/-
  A world in which the listed widths lie as the program's text lays them; and what the walks ask of them, out of that condition. No conditions.
-/
import Derived.Test.YtdlfndjgncdgfaaDoorBase
import Derived.Test.YtdlfndjgncdgfaaDoorLayWords
import Derived.Test.YtdlfndjgncdgfaaDoorLayITab
import Derived.Lib.LaidTab
import Derived.Stop.LaidErr
namespace Go.Proofs.YtdlfndjgncdgfaaDoor
open Go.ChangeShapes Go.WideShapes Go.ChangeAt Go.RowKit Go.Shelf

def withCellsL (cs : Array Value) : Obj → Obj
  | .cells _ t frozen => .cells cs t frozen
  | o => o
/-- The settled world, the two variables holding what the program's text lays. -/
noncomputable def laidWorld (os : Os) : World :=
  { World.holding Tryd.prog os ⟨#[], #[], []⟩ with heap := (((World.holding Tryd.prog os ⟨#[], #[], []⟩).heap.modify 0 (withCellsL #[.int .i64 64, .int .i64 32, .int .i64 16, .int .i64 8, .int .i64 1])).modify
      1 (withCellsL #[.int .i64 8, .int .i64 4, .int .i64 2, .int .i64 1])) }
theorem wtab_of_is {W : World} (h : Lib.TabIs Tryd.prog W "transom/layout.widths" .i64 [64, 32, 16, 8, 1]) : WTab W := by
  have hg : Tryd.prog.globalNamed "transom/layout.widths" = some 0 := by kernel_rfl
  have c0 := h.cell hg 0 (by decide)
  exact ⟨World.block_lt_of_cell? _ _ c0, c0, h.cell hg 1 (by decide), h.cell hg 2 (by decide), h.cell hg 3 (by decide), h.cell hg 4 (by decide)⟩
theorem wtab_of_laid1 {W : World} (h : laidMetH Tryd.prog [("transom/layout.widths", Rows.laid_transom_layout_widths)] W) : WTab W := by
  have h' : laidMet Tryd.prog [("transom/layout.widths", Lib.tabData .i64 [64, 32, 16, 8, 1])] W := h
  exact wtab_of_is (Lib.tabIs_of_head (g := 0) (by kernel_rfl) (by kernel_rfl) Tryd.underlying81 Tryd.underlying3 (by kernel_rfl) (by kernel_rfl) h')
theorem wtab_of_laid2 {W : World} (h : laidMetH Tryd.prog [("transom/layout.widths", Rows.laid_transom_layout_widths), ("transom/layout.inlines", Rows.laid_transom_layout_inlines)] W) : WTab W := by
  have h' : laidMet Tryd.prog (("transom/layout.widths", Lib.tabData .i64 [64, 32, 16, 8, 1]) :: [("transom/layout.inlines", Rows.laid_transom_layout_inlines)]) W := h
  exact wtab_of_is (Lib.tabIs_of_head (g := 0) (by kernel_rfl) (by kernel_rfl) Tryd.underlying81 Tryd.underlying3 (by kernel_rfl) (by kernel_rfl) h')
theorem itab_of_is {W : World} (h : Lib.TabIs Tryd.prog W "transom/layout.inlines" .i64 [8, 4, 2, 1]) : ITab W := by
  have hg : Tryd.prog.globalNamed "transom/layout.inlines" = some 1 := by kernel_rfl
  have c0 := h.cell hg 0 (by decide)
  exact ⟨World.block_lt_of_cell? _ _ c0, c0, h.cell hg 1 (by decide), h.cell hg 2 (by decide), h.cell hg 3 (by decide)⟩
theorem itab_of_laid2 {W : World} (h : laidMetH Tryd.prog [("transom/layout.widths", Rows.laid_transom_layout_widths), ("transom/layout.inlines", Rows.laid_transom_layout_inlines)] W) : ITab W := by
  have h' : laidMet Tryd.prog (("transom/layout.widths", Rows.laid_transom_layout_widths) :: [("transom/layout.inlines", Lib.tabData .i64 [8, 4, 2, 1])]) W := h
  exact itab_of_is (Lib.tabIs_of_head (g := 1) (by kernel_rfl) (by kernel_rfl) Tryd.underlying84 Tryd.underlying3 (by kernel_rfl) (by kernel_rfl) (laidMet.tail h'))
end Go.Proofs.YtdlfndjgncdgfaaDoor
