/-
  What a fitting value of each sort is, plain. No run of the program stands in this text. Conditions: those that each theorem names.
-/
import Derived.Test.YtiknhkkeifemcaaGreatDoorPkN3
import Derived.Test.YtiknhkkeifemcaaGreatDoorPkN6
import Derived.Test.YtiknhkkeifemcaaGreatDoorPkN8
import Derived.Test.YtiknhkkeifemcaaGreatDoorPkN13
import Derived.Test.YtiknhkkeifemcaaGreatDoorPkN18
import Derived.Test.YtiknhkkeifemcaaGreatDoorPkN19
import Derived.Laws.MakeOwn
import Derived.Deep.RegionHeld3
namespace Go.Proofs.YtiknhkkeifemcaaGreatDoor
open Go.ChangeShapes Go.WideShapes Go.ChangeAt Go.RowKit Go.Shelf

def numV (n : Nat) : PV := .mk n [] [] false
def dfltN (f : CFld) : Nat := if sortP f.kind f.lists = 1 then f.dflt else 0
theorem take_set (fs : List CFld) (j d : Nat) (hj : j < fs.length) : ((fs.take j).map dfltN ++ List.replicate (fs.length - j) 0).set j d = (fs.take j).map dfltN ++ d :: List.replicate (fs.length - (j + 1)) 0 := by
  have hl : ((fs.take j).map dfltN).length = j := by rw [List.length_map, List.length_take]; omega
  rw [List.set_append_right _ _ (by rw [hl]; exact Nat.le_refl _), hl, Nat.sub_self, show fs.length - j = (fs.length - (j + 1)) + 1 by omega, List.replicate_succ, List.set_cons_zero]
theorem take_zero (fs : List CFld) (j : Nat) (hj : j < fs.length) : (fs.take j).map dfltN ++ List.replicate (fs.length - j) 0 = (fs.take j).map dfltN ++ 0 :: List.replicate (fs.length - (j + 1)) 0 := by
  rw [show fs.length - j = (fs.length - (j + 1)) + 1 by omega, List.replicate_succ]
end Go.Proofs.YtiknhkkeifemcaaGreatDoor
namespace Go.Proofs.YtiknhkkeifemcaaGreatDoor
open Go.ChangeShapes Go.WideShapes Go.ChangeAt Go.RowKit Go.Shelf
def structP (ss : List CRec) (es : List SCho) (room : Nat) (rec : Int) (ks : List PV) : Bool :=
  decide (0 ≤ rec ∧ rec < ss.length) && (!decide (room = 0) && (decide (ks.length = (ss.getD rec.toNat ⟨⟨#[]⟩, []⟩).fields.length) && fieldsP (fitsP ss es (room - 1)) (ss.getD rec.toNat ⟨⟨#[]⟩, []⟩).fields ks))
end Go.Proofs.YtiknhkkeifemcaaGreatDoor
namespace Go.Proofs.YtiknhkkeifemcaaGreatDoor
open Go.ChangeShapes Go.WideShapes Go.ChangeAt Go.RowKit Go.Shelf

theorem three_start (w : World) (a b c : Array Value) (s t u : TypeId) : Below w.heap.size w (((w.alloc (.cells a s)).alloc (.cells b t)).alloc (.cells c u)) ∧ (((w.alloc (.cells a s)).alloc (.cells b t)).alloc (.cells c u)).heap[w.heap.size]? = some (.cells a s (0, 0)) ∧ (((w.alloc (.cells a s)).alloc (.cells b t)).alloc (.cells c u)).heap[w.heap.size + 1]? = some (.cells b t (0, 0)) ∧ (((w.alloc (.cells a s)).alloc (.cells b t)).alloc (.cells c u)).heap[w.heap.size + 1 + 1]? = some (.cells c u (0, 0)) := by
  obtain ⟨h1, h2, h3⟩ := two_start w a b s t
  refine ⟨h1.alloc (by simp only [World.size_alloc]; omega) _, blk_alloc h2 _, blk_alloc h3 _, ?_⟩
  have h := heap_alloc_new ((w.alloc (.cells a s)).alloc (.cells b t)) (.cells c u)
  rw [World.size_alloc, World.size_alloc] at h
  exact h
theorem fitsP_eq (ss : List CRec) (es : List SCho) (room k : Nat) (ref lists : Int) (v : PV) : fitsP ss es room k ref lists v = (bareP (sortP k lists) v &&
    (if sortP k lists = 1 then fitsT es k ref lists v.num else if sortP k lists = 2 then decide (k = 12) || decide (u8At v.bytes 0 < 0)
     else if sortP k lists = 3 then v.kids.all (kidOk ss es room k ref (lists - 1)) else if sortP k lists = 4 then !v.has || structP ss es room ref v.kids else false)) := by
  cases room with
  | zero =>
    show fitsV1 ss es none k ref lists v = _
    unfold fitsV1
    congr 1
    have h1 : decide (v.kids.length = 0) = v.kids.all (kidOk ss es 0 k ref (lists - 1)) := by
      cases v.kids with
      | nil => rfl
      | cons a l => simp [kidOk]
    have h2 : structP ss es 0 ref v.kids = false := by unfold structP; simp
    rw [h2, ← h1]
  | succ r =>
    have h2 : structP ss es (r + 1) ref v.kids = (decide (0 ≤ ref ∧ ref < ss.length) && (decide (v.kids.length = (ss.getD ref.toNat ⟨⟨#[]⟩, []⟩).fields.length) && fieldsP (fitsP ss es r) (ss.getD ref.toNat ⟨⟨#[]⟩, []⟩).fields v.kids)) := by unfold structP; simp
    show fitsV1 ss es (some (fitsP ss es r)) k ref lists v = _
    unfold fitsV1
    rw [h2]
    rfl
end Go.Proofs.YtiknhkkeifemcaaGreatDoor
namespace Go.Proofs.YtiknhkkeifemcaaGreatDoor
open Go.ChangeShapes Go.WideShapes Go.ChangeAt Go.RowKit Go.Shelf

theorem own_blk {w : World} {base g n size : Nat} {e : TypeId} {cs : Array Value} (hg : w.heap[g]? = some (.cells cs e (0, 0))) (hb : base ≤ g) (hm : n ≤ maxLen) (hs : cs.size = n * size) : w.ownsRow base e size (.slice (some ⟨g, 0, none⟩) n n) n cs.toList :=
  ⟨by simpa using hs, .inr ⟨g, n, cs, rfl, hb, hg, Nat.le_refl _, hm, hs, List.take_of_length_le (by rw [Array.length_toList, hs]; exact Nat.le_refl _)⟩⟩
end Go.Proofs.YtiknhkkeifemcaaGreatDoor
namespace Go.Proofs.YtiknhkkeifemcaaGreatDoor
open Go.ChangeShapes Go.WideShapes Go.ChangeAt Go.RowKit Go.Shelf

theorem bare_num {q : PV} (h : bareP 1 q = true) : q = .mk q.num [] [] false := by
  cases q with
  | mk n bs ks hs =>
    simp [bareP, PV.num, PV.bytes, PV.kids, PV.has] at h
    obtain ⟨h1, h2, h3⟩ := h
    subst h3
    simp at h2
    subst h1 h2
    rfl
theorem bare_bytes {q : PV} (h : bareP 2 q = true) : q = .mk 0 q.bytes [] false := by
  cases q with
  | mk n bs ks hs =>
    simp [bareP, PV.num, PV.bytes, PV.kids, PV.has] at h
    obtain ⟨h1, h2, h3⟩ := h
    replace h1 := of_decide_eq_true h1
    subst h3
    simp at h2
    subst h1 h2
    rfl
theorem bare_list {q : PV} (h : bareP 3 q = true) : q.num = 0 ∧ q.bytes = [] ∧ q.has = false := by
  cases q with
  | mk n bs ks hs =>
    simp [bareP, PV.num, PV.bytes, PV.kids, PV.has] at h
    exact ⟨of_decide_eq_true h.1, h.2.1, h.2.2⟩
theorem bare_struct {q : PV} (h : bareP 4 q = true) : q.num = 0 ∧ q.bytes = [] ∧ (q.has = false → q = nilV) := by
  cases q with
  | mk n bs ks hs =>
    simp [bareP, PV.num, PV.bytes, PV.kids, PV.has] at h
    obtain ⟨h1, h2, h3⟩ := h
    replace h1 := of_decide_eq_true h1
    refine ⟨h1, h2, fun h4 => ?_⟩
    have h5 : hs = false := h4
    subst h5
    simp at h3
    subst h1 h2 h3
    rfl
theorem fits_sort {ss : List CRec} {es : List SCho} {room k : Nat} {ref lists : Int} {q : PV} (h : fitsP ss es room k ref lists q = true) :
    (sortP k lists = 1 ∧ q = .mk q.num [] [] false) ∨ (sortP k lists = 2 ∧ q = .mk 0 q.bytes [] false) ∨ (sortP k lists = 3 ∧ (q.num = 0 ∧ q.bytes = [] ∧ q.has = false) ∧ q.kids.all (kidOk ss es room k ref (lists - 1)) = true) ∨
    (sortP k lists = 4 ∧ ((q.has = false ∧ q = nilV) ∨ (q.has = true ∧ q.num = 0 ∧ q.bytes = [] ∧ structP ss es room ref q.kids = true))) := by
  rw [fitsP_eq, Bool.and_eq_true] at h
  obtain ⟨h1, h2⟩ := h
  by_cases s1 : sortP k lists = 1
  · rw [s1] at h1
    exact .inl ⟨s1, bare_num h1⟩
  rw [if_neg s1] at h2
  by_cases s2 : sortP k lists = 2
  · rw [s2] at h1
    exact .inr (.inl ⟨s2, bare_bytes h1⟩)
  rw [if_neg s2] at h2
  by_cases s3 : sortP k lists = 3
  · rw [s3] at h1
    rw [if_pos s3] at h2
    exact .inr (.inr (.inl ⟨s3, bare_list h1, h2⟩))
  rw [if_neg s3] at h2
  by_cases s4 : sortP k lists = 4
  · rw [s4] at h1
    rw [if_pos s4] at h2
    obtain ⟨a, b, c⟩ := bare_struct h1
    refine .inr (.inr (.inr ⟨s4, ?_⟩))
    cases hh : q.has with
    | false => exact .inl ⟨rfl, c hh⟩
    | true => rw [hh] at h2; exact .inr ⟨rfl, a, b, by simpa using h2⟩
  rw [if_neg s4] at h2
  cases h2
theorem kidOk_parts {ss : List CRec} {es : List SCho} {room k : Nat} {ref lists : Int} {q : PV} (h : kidOk ss es room k ref lists q = true) : ∃ r, room = r + 1 ∧ (sortP k lists = 4 → q.has = true) ∧ fitsP ss es r k ref lists q = true := by
  unfold kidOk at h
  simp only [Bool.and_eq_true, Bool.not_eq_true', decide_eq_false_iff_not, Bool.and_eq_false_iff] at h
  obtain ⟨h1, h2, h3⟩ := h
  obtain ⟨r, rfl⟩ : ∃ r, room = r + 1 := ⟨room - 1, by omega⟩
  refine ⟨r, rfl, fun h4 => ?_, h3⟩
  rcases h2 with h2 | h2
  · exact absurd h4 h2
  · simpa using h2
end Go.Proofs.YtiknhkkeifemcaaGreatDoor
