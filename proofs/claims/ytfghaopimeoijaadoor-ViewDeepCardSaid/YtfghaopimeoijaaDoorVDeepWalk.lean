/-
  The law ViewDeep: of every number and in both ways it returns true, and nothing that was there is written. Conditions: those that each theorem names; the library's tables hold what the row lists.
-/
import Derived.Test.YtfghaopimeoijaaDoorVDeepN
import Derived.Test.YtfghaopimeoijaaDoorVDeepL
namespace Go.Proofs.YtfghaopimeoijaaDoor
open Go.ChangeShapes Go.WideShapes Go.ChangeAt Go.RowKit Go.Shelf

theorem viewDeep_walk (n : Int) (l : Bool) (w : World) (hn : (Lit.int .u8 n).wf = true) (hT : Tabs w) :
    Calls Tryd.prog 7 #[.int .u8 n, .bool l] w fun e w' => e = .returned (.bool true) ∧ Below w.heap.size w w' := by
  have hb := bounds_u8 hn
  obtain ⟨m, rfl⟩ : ∃ m : Nat, n = m := ⟨n.toNat, by omega⟩
  cases l with
  | false => exact vdeep_plain m (by omega) w hT
  | true => exact vdeep_lists m (by omega) w hT
end Go.Proofs.YtfghaopimeoijaaDoor
