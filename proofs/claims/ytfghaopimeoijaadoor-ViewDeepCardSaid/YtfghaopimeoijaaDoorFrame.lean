/-
  A world in which the listed tables lie as the program's text lays them. No conditions.
-/
import Derived.Test.YtfghaopimeoijaaDoorBase
import Derived.Test.YtfghaopimeoijaaDoorDec
import Derived.Lib.LaidTab
namespace Go.Proofs.YtfghaopimeoijaaDoor
open Go.ChangeShapes Go.WideShapes Go.ChangeAt Go.RowKit

/-- The settled world, the two tables holding what the program's text lays. -/
noncomputable def laidWorld (os : Os) : World :=
  { World.holding Tryd.prog os ⟨#[], #[], []⟩ with heap := (((World.holding Tryd.prog os ⟨#[], #[], []⟩).heap.modify 0 (fun
      | .cells _ t frozen => .cells (Lib.firstTab.map (Value.int .u8)).toArray t frozen
      | o => o)).modify 1 (fun
      | .cells _ t frozen => .cells ((List.range 32).map fun i => Value.int .u8 (if i % 2 = 0 then Lib.accLo (i / 2) else Lib.accHi (i / 2))).toArray t frozen
      | o => o)) }
end Go.Proofs.YtfghaopimeoijaaDoor
