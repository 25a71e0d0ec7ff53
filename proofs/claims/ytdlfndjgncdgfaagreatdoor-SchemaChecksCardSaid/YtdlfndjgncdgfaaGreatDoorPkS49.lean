/-
  The document's Make: the loop that finds the root. Conditions: those that each theorem names.
-/
import Derived.Test.YtdlfndjgncdgfaaGreatDoorPkS13
import Derived.Test.YtdlfndjgncdgfaaGreatDoorPkS27
import Derived.Test.YtdlfndjgncdgfaaGreatDoorPkS32
import Derived.Test.YtdlfndjgncdgfaaGreatDoorPkS37
import Derived.Deep.RegionLaw
import Derived.Deep.AppendLies
import Derived.Deep.RegionHeld3
namespace Go.Proofs.YtdlfndjgncdgfaaGreatDoor
open Go.ChangeShapes Go.WideShapes Go.ChangeAt Go.RowKit Go.Shelf

structure RmKeep (w : World) (sv ev rv : Value) (W : World) : Prop where
  bel : Below w.heap.size w W
  raw : W.heap[w.heap.size]? = some (.cells #[sv, ev, rv] 71 (0, 0))
  res : noRes W (w.heap.size + 1)
theorem RmKeep.below {w W W' : World} {sv ev rv : Value} {B : Nat} (h : RmKeep w sv ev rv W) (hb : Below B W W') (hB : w.heap.size + 2 ≤ B) : RmKeep w sv ev rv W' :=
  ⟨h.bel.trans (hb.mono (by omega)), blk_below h.raw hb (by omega), blk_below h.res hb (by omega)⟩
theorem RmKeep.grown {w W Wa W' : World} {sv ev rv : Value} {row : Option Nat} (h : RmKeep w sv ev rv W) (ha : Below W.heap.size W Wa) (hg : Wa.grownBy W' row) (hr : ∀ k, row = some k → w.heap.size + 2 ≤ k) : RmKeep w sv ev rv W' := by
  have l1 := blk_lt h.raw
  have l2 := blk_lt h.res
  have hs := ha.size
  refine ⟨(h.bel.trans (ha.mono h.bel.size)).grown hg (by omega) (fun k hk => by have := hr k hk; omega), (hg.block _ (by omega) (fun e => by have := hr _ e.symm; omega)).trans (blk_below h.raw ha l1), (hg.block _ (by omega) (fun e => by have := hr _ e.symm; omega)).trans (blk_below h.res ha l2)⟩
end Go.Proofs.YtdlfndjgncdgfaaGreatDoor
namespace Go.Proofs.YtdlfndjgncdgfaaGreatDoor
open Go.ChangeShapes Go.WideShapes Go.ChangeAt Go.RowKit Go.Shelf

theorem SchRows.keep3 {base g i : Nat} {W : World} {ss : List (SRec × Value)} {es : List (SCho × Value)} {sv ev : Value} (h : SchRows base W ss es sv ev) (hg : g < base) (x : Value) : SchRows base (W.setCell ⟨g, i, none⟩ x) ss es sv ev :=
  ⟨ownsRow_setCell_below h.structs hg x, ownsRow_setCell_below h.enums hg x, fun q hq => ownsRow_setCell_below (h.fields q hq) hg x, fun q hq => ownsRow_setCell_below (h.names q hq) hg x⟩
end Go.Proofs.YtdlfndjgncdgfaaGreatDoor
