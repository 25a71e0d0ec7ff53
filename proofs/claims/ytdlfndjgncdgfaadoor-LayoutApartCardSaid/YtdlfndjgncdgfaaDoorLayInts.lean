/-
  Rows of numbers of the call's own; the document's SameInts. Conditions: those that each theorem names.
-/
import Derived.Test.YtdlfndjgncdgfaaDoorRws
import Derived.Test.YtdlfndjgncdgfaaDoorQuiet
import Derived.BigQuiet
namespace Go.Proofs.YtdlfndjgncdgfaaDoor
open Go.ChangeShapes Go.WideShapes Go.ChangeAt Go.RowKit Go.Shelf

def i64Cell (z : Int) : List Value := [.int .i64 z]
def i64Cells (l : List Int) : List Value := l.flatMap i64Cell
theorem i64Cells_snoc (l : List Int) (z : Int) : i64Cells (l ++ [z]) = i64Cells l ++ [.int .i64 z] := by simp [i64Cells, i64Cell]
theorem i64Cells_map (l : List Int) : i64Cells l = l.map (Value.int .i64) := by
  induction l with
  | nil => rfl
  | cons a r ih => rw [List.map_cons, ← ih]; rfl
theorem i64Cells_length (l : List Int) : (i64Cells l).length = l.length := by rw [i64Cells_map, List.length_map]
/-- A row of numbers, cell by cell. -/
theorem row_i64 {w : World} {base : Nat} {v : Value} {l : List Int} (h : w.ownsRow base 3 1 v l.length (i64Cells l)) (k : Nat) (hk : k < l.length) :
    ∃ g c, v = .slice (some ⟨g, 0, none⟩) l.length c ∧ l.length ≤ c ∧ g < w.heap.size ∧ w.cell? ⟨g, k, none⟩ = some (.int .i64 l[k]) := by
  obtain ⟨g, c, hv, hc, hg, hcell⟩ := row_el i64Cell 1 (fun _ => rfl) h k hk
  have h0 := hcell 0 (by omega)
  rw [Nat.mul_one, Nat.add_zero] at h0
  exact ⟨g, c, hv, hc, hg, h0⟩
theorem take_same {α : Type} {a b : List α} {k : Nat} (hk : k < a.length) (hk2 : k < b.length) (h : a.take k = b.take k) (he : a[k] = b[k]) : a.take (k + 1) = b.take (k + 1) := by
  rw [List.take_succ_eq_append_getElem hk, List.take_succ_eq_append_getElem hk2, h, he]
end Go.Proofs.YtdlfndjgncdgfaaDoor
