/-
  The hand's Made: the loop over a struct's fields. Conditions: those that each theorem names.
-/
import Derived.Test.YtachghaegokpdaaDoorPkFC3
import Derived.Deep.RegionHeld3
namespace Go.Proofs.YtachghaegokpdaaDoor
open Go.ChangeShapes Go.WideShapes Go.ChangeAt Go.RowKit Go.Shelf
theorem blk5 {w:World}{g:Nat}{x0 x1 x2 x3 x4:Value}{t:TypeId}(h:w.heap[g]?=some (.cells #[x0,x1,x2,x3,x4] t (0,0))) :
  g<w.heap.size∧w.cell? ⟨g,0,none⟩=some x0∧w.cell? ⟨g,1,none⟩=some x1∧w.cell? ⟨g,2,none⟩=some x2∧w.cell? ⟨g,3,none⟩=some x3∧w.cell? ⟨g,4,none⟩=some x4 ∧
   w.frozen? ⟨g,0,none⟩=false∧w.frozen? ⟨g,1,none⟩=false∧w.frozen? ⟨g,2,none⟩=false∧w.frozen? ⟨g,3,none⟩=false∧w.frozen? ⟨g,4,none⟩=false:=
 ⟨blk_lt h,(blk_cell h 0).trans rfl,(blk_cell h 1).trans rfl,(blk_cell h 2).trans rfl,(blk_cell h 3).trans rfl,(blk_cell h 4).trans rfl,blk_frozen h 0,blk_frozen h 1,blk_frozen h 2,blk_frozen h 3,blk_frozen h 4⟩
end Go.Proofs.YtachghaegokpdaaDoor
