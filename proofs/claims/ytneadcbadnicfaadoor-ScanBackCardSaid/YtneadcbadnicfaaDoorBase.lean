/-
  What the frames of this seat's proofs share: the program's own facts, and what a walk is told of a slice of integers that came in. No conditions.
-/
import Derived.Test.YtneadcbadnicfaaDoorRows
import Derived.WalkKit
import Derived.ProofKit
import Derived.OpenShut
import Derived.ShutString
import Derived.ChangeOld
import Derived.Below
import Derived.Deep.DeepHandedRow
namespace Go.Proofs.YtneadcbadnicfaaDoor
open Go.ChangeShapes Go.WideShapes Go.ChangeAt Go.RowKit

theorem own : ownKnob Tryd.prog.godebug = none := by kernel_rfl
theorem laidOut : laidOutB Tryd.prog = true := by kernel_rfl
/-- A slice of integers that came in: its numbers up to the capacity. -/
def IsRow (k : IntKind) (w : World) (a : Option Addr) (len cap : Nat) (zs : List Int) : Prop :=
  len ≤ cap ∧ cap ≤ maxLen ∧ zs.length = cap ∧ (∀ n ∈ zs, (Lit.int k n).wf = true) ∧
  (zs ≠ [] → ∃ b off, a = some ⟨b, off, none⟩ ∧ b < w.heap.size ∧ ∀ j, j < zs.length → w.cell? ⟨b, off + j, none⟩ = some (.int k (zs.getD j 0)))
theorem isRow_nil (k : IntKind) (w : World) (a : Option Addr) : IsRow k w a 0 0 [] :=
  ⟨Nat.le_refl _, Nat.zero_le _, rfl, (fun n h => by simp at h), (fun h => absurd rfl h)⟩
theorem isRow_of {k : IntKind} {w : World} {x : Addr} {len cap : Nat} {zs : List Int} (hl : len ≤ cap) (hm : cap ≤ maxLen) (hz : zs.length = cap)
    (hc : ∀ i, i < zs.length → w.cell? (x.add i) = some (.int k (zs.getD i 0))) (hw : ∀ n ∈ zs, (Lit.int k n).wf = true) : IsRow k w (some x) len cap zs := by
  refine ⟨hl, hm, hz, hw, fun hne => ?_⟩
  have h0 : 0 < zs.length := List.length_pos_iff.2 hne
  obtain ⟨b, off, rfl, hc'⟩ := ints_at hc h0
  exact ⟨b, off, rfl, World.block_lt_of_cell? _ _ (hc' 0 h0), hc'⟩
end Go.Proofs.YtneadcbadnicfaaDoor
