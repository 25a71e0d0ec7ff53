/-
  Bytes of a slice, as the walks are told of them. Conditions: those that each theorem names.
-/
import Derived.Test.YtneadcbadnicfaaDoorHead
namespace Go.Proofs.YtneadcbadnicfaaDoor
open Go.ChangeShapes Go.WideShapes Go.ChangeAt Go.RowKit

/-- What the walk is told of a slice of bytes: it is empty, or it leads to its bytes. -/
def Bytes (w : World) (p : Option Addr) (zs : List Int) : Prop :=
  (∀ i, 0 ≤ zs.getD i 0 ∧ zs.getD i 0 ≤ 255) ∧ (zs ≠ [] → ∃ b off, p = some ⟨b, off, none⟩ ∧ b < w.heap.size ∧ ∀ i, i < zs.length → w.cell? ⟨b, off + i, none⟩ = some (.int .u8 (zs.getD i 0)))
theorem Bytes.below {w w' : World} {p : Option Addr} {zs : List Int} {B : Nat} (h : Bytes w p zs) (hB : w.heap.size ≤ B) (hb : Below B w w') : Bytes w' p zs := by
  refine ⟨h.1, fun hne => ?_⟩
  obtain ⟨b, off, rfl, hlt, hc⟩ := h.2 hne
  exact ⟨b, off, rfl, Nat.lt_of_lt_of_le hlt hb.size, fun i hi => (hb.cell (p := ⟨b, off + i, none⟩) (Nat.lt_of_lt_of_le hlt hB)).trans (hc i hi)⟩
end Go.Proofs.YtneadcbadnicfaaDoor
