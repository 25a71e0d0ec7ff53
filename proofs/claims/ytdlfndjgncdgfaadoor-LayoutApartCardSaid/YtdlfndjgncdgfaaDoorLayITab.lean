/-
  The listed sizes of fields within a table. Conditions: those that each theorem names.
-/
import Derived.Test.YtdlfndjgncdgfaaDoorLayTP
namespace Go.Proofs.YtdlfndjgncdgfaaDoor
open Go.ChangeShapes Go.WideShapes Go.ChangeAt Go.RowKit Go.Shelf

/-- The listed sizes of fields within a table. -/
structure ITab (w : World) : Prop where
  lt : 1 < w.heap.size
  c0 : w.cell? ⟨1, 0, none⟩ = some (.int .i64 8)
  c1 : w.cell? ⟨1, 1, none⟩ = some (.int .i64 4)
  c2 : w.cell? ⟨1, 2, none⟩ = some (.int .i64 2)
  c3 : w.cell? ⟨1, 3, none⟩ = some (.int .i64 1)
theorem ITab.below {w w' : World} (h : ITab w) (hb : Below w.heap.size w w') : ITab w' :=
  ⟨Nat.lt_of_lt_of_le h.lt hb.size, (hb.cell (p := ⟨1, 0, none⟩) h.lt).trans h.c0, (hb.cell (p := ⟨1, 1, none⟩) h.lt).trans h.c1, (hb.cell (p := ⟨1, 2, none⟩) h.lt).trans h.c2, (hb.cell (p := ⟨1, 3, none⟩) h.lt).trans h.c3⟩
theorem idx4_0 (W : World) : (Instr.index 84 (.agg #[.int .i64 8, .int .i64 4, .int .i64 2, .int .i64 1]) (.int .i64 0)).run Tryd.prog W = .ok (.int .i64 8) W := by kernel_rfl
theorem idx4_1 (W : World) : (Instr.index 84 (.agg #[.int .i64 8, .int .i64 4, .int .i64 2, .int .i64 1]) (.int .i64 1)).run Tryd.prog W = .ok (.int .i64 4) W := by kernel_rfl
theorem idx4_2 (W : World) : (Instr.index 84 (.agg #[.int .i64 8, .int .i64 4, .int .i64 2, .int .i64 1]) (.int .i64 2)).run Tryd.prog W = .ok (.int .i64 2) W := by kernel_rfl
theorem idx4_3 (W : World) : (Instr.index 84 (.agg #[.int .i64 8, .int .i64 4, .int .i64 2, .int .i64 1]) (.int .i64 3)).run Tryd.prog W = .ok (.int .i64 1) W := by kernel_rfl
theorem idx4 (z : Nat) (hz : z < 4) (W : World) : (Instr.index 84 (.agg #[.int .i64 8, .int .i64 4, .int .i64 2, .int .i64 1]) (.int .i64 (z : Int))).run Tryd.prog W = .ok (.int .i64 (inlinesL.getD z 0)) W := by
  have : z = 0 ∨ z = 1 ∨ z = 2 ∨ z = 3 := by omega
  rcases this with rfl | rfl | rfl | rfl
  · exact idx4_0 W
  · exact idx4_1 W
  · exact idx4_2 W
  · exact idx4_3 W
end Go.Proofs.YtdlfndjgncdgfaaDoor
