/-
  One byte as a text. Conditions: those that the theorem names.
-/
import Derived.Test.YtneadcbadnicfaaDoorHead
import Derived.Laws.BytesArg
namespace Go.Proofs.YtneadcbadnicfaaDoor
open Go.ChangeShapes Go.WideShapes Go.ChangeAt Go.RowKit

theorem one_str (W : World) (z : Int) : (convert 22 9 (.slice (some ⟨W.heap.size, 0, none⟩) 1 1)).run Tryd.prog (W.alloc (.cells #[.int .u8 z] 5)) = .ok (.string (strOfNums [z])) (W.alloc (.cells #[.int .u8 z] 5)) := by
  refine run_convert_bytes_arg (P := Tryd.prog) _ 22 5 Tryd.underlying22 Tryd.underlying5 W.heap.size 0 1 1 [z] rfl (fun k hk => ?_) 9 Tryd.underlying9
  obtain rfl : k = 0 := by omega
  rw [cell_of_row _ _ _ _ _ (0, 0) (heap_alloc_new W _)]
  rfl
end Go.Proofs.YtneadcbadnicfaaDoor
