/-
  The law SchemaLimits returns true for every input: its eight ways. Conditions: the library's tables hold what the row lists, its error lies there.
-/
import Derived.Test.YtleclhnlojalbaaGreatDoorPkL46
import Derived.Test.YtleclhnlojalbaaGreatDoorPkL47
namespace Go.Proofs.YtleclhnlojalbaaGreatDoor
open Go.ChangeShapes Go.WideShapes Go.ChangeAt Go.RowKit Go.Shelf

theorem schemaLimits_walk (what over : Int) (w : World) (hw : (Lit.int .u8 what).wf = true) (ho : (Lit.int .u8 over).wf = true) (hT : Tabs w) (hE : ErrV w) :
    Calls Tryz.prog 8 #[.int .u8 what, .int .u8 over] w fun e w' => e = .returned (.bool true) ∧ Below w.heap.size w w' := by
  have h1 : 0 ≤ what := by simp [Lit.wf, IntKind.min, IntKind.signed] at hw; omega
  have h2 : 0 ≤ over := by simp [Lit.wf, IntKind.min, IntKind.signed] at ho; omega
  have e1 : what.tmod 4 = what % 4 := Int.tmod_eq_emod_of_nonneg h1
  have e2 : over.tmod 2 = over % 2 := Int.tmod_eq_emod_of_nonneg h2
  have c1 : what.tmod 4 = 0 ∨ what.tmod 4 = 1 ∨ what.tmod 4 = 2 ∨ what.tmod 4 = 3 := by omega
  have c2 : over.tmod 2 = 0 ∨ over.tmod 2 = 1 := by omega
  rcases c1 with h | h | h | h <;> rcases c2 with k | k
  · exact limits_0_0 what over w h k hT hE
  · exact limits_0_1 what over w h k hT hE
  · exact limits_1_0 what over w h k hT hE
  · exact limits_1_1 what over w h k hT hE
  · exact limits_2_0 what over w h k hT hE
  · exact limits_2_1 what over w h k hT hE
  · exact limits_3_0 what over w h k hT hE
  · exact limits_3_1 what over w h k hT hE
end Go.Proofs.YtleclhnlojalbaaGreatDoor
