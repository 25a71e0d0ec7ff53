/-
  Structs in one another (the law ViewDeep), plain: which of them fit; how they lie in memory. Conditions: those that each theorem names.
-/
import Derived.Test.YtiknhkkeifemcaaGreatDoorPkM4
import Derived.Test.YtiknhkkeifemcaaGreatDoorPkM5
import Derived.Test.YtiknhkkeifemcaaGreatDoorPkM6
import Derived.Test.YtiknhkkeifemcaaGreatDoorPkM11
import Derived.Test.YtiknhkkeifemcaaGreatDoorPkM17
namespace Go.Proofs.YtiknhkkeifemcaaGreatDoor
open Go.ChangeShapes Go.WideShapes Go.ChangeAt Go.RowKit Go.Shelf

theorem three_start (w : World) (a b c : Array Value) (s t u : TypeId) : Below w.heap.size w (((w.alloc (.cells a s)).alloc (.cells b t)).alloc (.cells c u)) ∧ (((w.alloc (.cells a s)).alloc (.cells b t)).alloc (.cells c u)).heap[w.heap.size]? = some (.cells a s (0, 0)) ∧ (((w.alloc (.cells a s)).alloc (.cells b t)).alloc (.cells c u)).heap[w.heap.size + 1]? = some (.cells b t (0, 0)) ∧ (((w.alloc (.cells a s)).alloc (.cells b t)).alloc (.cells c u)).heap[w.heap.size + 1 + 1]? = some (.cells c u (0, 0)) := by
  obtain ⟨h1, h2, h3⟩ := two_start w a b s t
  refine ⟨h1.alloc (by simp only [World.size_alloc]; omega) _, blk_alloc h2 _, blk_alloc h3 _, ?_⟩
  have h := heap_alloc_new ((w.alloc (.cells a s)).alloc (.cells b t)) (.cells c u)
  rw [World.size_alloc, World.size_alloc] at h
  exact h
theorem fitsP_eq (ss : List CRec) (es : List SCho) (room k : Nat) (ref lists : Int) (v : PV) : fitsP ss es room k ref lists v = (bareP (sortP k lists) v &&
    (if sortP k lists = 1 then fitsT es k ref lists v.num else if sortP k lists = 2 then decide (k = 12) || decide (u8At v.bytes 0 < 0)
     else if sortP k lists = 3 then v.kids.all (kidOk ss es room k ref (lists - 1)) else if sortP k lists = 4 then !v.has || structP ss es room ref v.kids else false)) := by
  cases room with
  | zero =>
    show fitsV1 ss es none k ref lists v = _
    unfold fitsV1
    congr 1
    have h1 : decide (v.kids.length = 0) = v.kids.all (kidOk ss es 0 k ref (lists - 1)) := by
      cases v.kids with
      | nil => rfl
      | cons a l => simp [kidOk]
    have h2 : structP ss es 0 ref v.kids = false := by unfold structP; simp
    rw [h2, ← h1]
  | succ r =>
    have h2 : structP ss es (r + 1) ref v.kids = (decide (0 ≤ ref ∧ ref < ss.length) && (decide (v.kids.length = (ss.getD ref.toNat ⟨⟨#[]⟩, []⟩).fields.length) && fieldsP (fitsP ss es r) (ss.getD ref.toNat ⟨⟨#[]⟩, []⟩).fields v.kids)) := by unfold structP; simp
    show fitsV1 ss es (some (fitsP ss es r)) k ref lists v = _
    unfold fitsV1
    rw [h2]
    rfl
end Go.Proofs.YtiknhkkeifemcaaGreatDoor
namespace Go.Proofs.YtiknhkkeifemcaaGreatDoor
open Go.ChangeShapes Go.WideShapes Go.ChangeAt Go.RowKit Go.Shelf

theorem own_blk {w : World} {base g n size : Nat} {e : TypeId} {cs : Array Value} (hg : w.heap[g]? = some (.cells cs e (0, 0))) (hb : base ≤ g) (hm : n ≤ maxLen) (hs : cs.size = n * size) : w.ownsRow base e size (.slice (some ⟨g, 0, none⟩) n n) n cs.toList :=
  ⟨by simpa using hs, .inr ⟨g, n, cs, rfl, hb, hg, Nat.le_refl _, hm, hs, List.take_of_length_le (by rw [Array.length_toList, hs]; exact Nat.le_refl _)⟩⟩
theorem four_blk (w : World) (a b c d : Array Value) (r s t u : TypeId) : Below w.heap.size w ((((w.alloc (.cells a r)).alloc (.cells b s)).alloc (.cells c t)).alloc (.cells d u)) ∧
    ((((w.alloc (.cells a r)).alloc (.cells b s)).alloc (.cells c t)).alloc (.cells d u)).heap[w.heap.size]? = some (.cells a r (0, 0)) ∧
    ((((w.alloc (.cells a r)).alloc (.cells b s)).alloc (.cells c t)).alloc (.cells d u)).heap[w.heap.size + 1]? = some (.cells b s (0, 0)) ∧
    ((((w.alloc (.cells a r)).alloc (.cells b s)).alloc (.cells c t)).alloc (.cells d u)).heap[w.heap.size + 2]? = some (.cells c t (0, 0)) ∧
    ((((w.alloc (.cells a r)).alloc (.cells b s)).alloc (.cells c t)).alloc (.cells d u)).heap[w.heap.size + 3]? = some (.cells d u (0, 0)) := by
  obtain ⟨h1, h2, h3⟩ := two_start w a b r s
  obtain ⟨h4, h5, h6⟩ := two_start ((w.alloc (.cells a r)).alloc (.cells b s)) c d t u
  have e : ((w.alloc (.cells a r)).alloc (.cells b s)).heap.size = w.heap.size + 2 := by simp
  rw [e] at h5 h6
  exact ⟨h1.trans (h4.mono h1.size), blk_below h2 h4 (blk_lt h2), blk_below h3 h4 (blk_lt h3), h5, h6⟩
end Go.Proofs.YtiknhkkeifemcaaGreatDoor
namespace Go.Proofs.YtiknhkkeifemcaaGreatDoor
open Go.ChangeShapes Go.WideShapes Go.ChangeAt Go.RowKit Go.Shelf
theorem five_blk (w : World) (a b c d e : Array Value) (r s t u x : TypeId) : Below w.heap.size w (((((w.alloc (.cells a r)).alloc (.cells b s)).alloc (.cells c t)).alloc (.cells d u)).alloc (.cells e x)) ∧
    (((((w.alloc (.cells a r)).alloc (.cells b s)).alloc (.cells c t)).alloc (.cells d u)).alloc (.cells e x)).heap[w.heap.size]? = some (.cells a r (0, 0)) ∧
    (((((w.alloc (.cells a r)).alloc (.cells b s)).alloc (.cells c t)).alloc (.cells d u)).alloc (.cells e x)).heap[w.heap.size + 1]? = some (.cells b s (0, 0)) ∧
    (((((w.alloc (.cells a r)).alloc (.cells b s)).alloc (.cells c t)).alloc (.cells d u)).alloc (.cells e x)).heap[w.heap.size + 1 + 1]? = some (.cells c t (0, 0)) ∧
    (((((w.alloc (.cells a r)).alloc (.cells b s)).alloc (.cells c t)).alloc (.cells d u)).alloc (.cells e x)).heap[w.heap.size + 1 + 1 + 1]? = some (.cells d u (0, 0)) ∧
    (((((w.alloc (.cells a r)).alloc (.cells b s)).alloc (.cells c t)).alloc (.cells d u)).alloc (.cells e x)).heap[w.heap.size + 1 + 1 + 1 + 1]? = some (.cells e x (0, 0)) ∧
    w.heap.size + 1 + 1 + 1 + 1 + 1 = (((((w.alloc (.cells a r)).alloc (.cells b s)).alloc (.cells c t)).alloc (.cells d u)).alloc (.cells e x)).heap.size := by
  obtain ⟨h0, h1, h2, h3, h4⟩ := four_blk w a b c d r s t u
  have hs : ((((w.alloc (.cells a r)).alloc (.cells b s)).alloc (.cells c t)).alloc (.cells d u)).heap.size = w.heap.size + 1 + 1 + 1 + 1 := by simp
  have h5 := heap_alloc_new ((((w.alloc (.cells a r)).alloc (.cells b s)).alloc (.cells c t)).alloc (.cells d u)) (.cells e x)
  rw [hs] at h5
  exact ⟨h0.alloc h0.size _, blk_alloc h1 _, blk_alloc h2 _, blk_alloc h3 _, blk_alloc h4 _, h5, by simp⟩
def set4 (w : World) (g : Nat) (x y z u : Value) : World := (((w.setCell ⟨g, 0, none⟩ x).setCell ⟨g, 1, none⟩ y).setCell ⟨g, 2, none⟩ z).setCell ⟨g, 3, none⟩ u
end Go.Proofs.YtiknhkkeifemcaaGreatDoor
