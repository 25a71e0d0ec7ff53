/-
  What the hand's Made makes has such fields as the package view and the document's Value are told of. Conditions: those that each theorem names.
-/
import Derived.Test.YtjeoekggdohhiaaDoorPkB23
import Derived.Test.YtjeoekggdohhiaaDoorPkB29
namespace Go.Proofs.YtjeoekggdohhiaaDoor
open Go.ChangeShapes Go.WideShapes Go.ChangeAt Go.RowKit Go.Shelf

def crow (ss : List (SRec × Value)) : List (CRec × Value) := ss.map fun q => (cR q.1, q.2)
theorem crow_length (ss : List (SRec × Value)) : (crow ss).length = ss.length := List.length_map _
theorem crow_fst (ss : List (SRec × Value)) : (crow ss).map Prod.fst = (ss.map Prod.fst).map cR := by
  unfold crow
  rw [List.map_map, List.map_map]
  rfl
theorem made_fld {p : Plan} {ss : List (SRec × Value)} (hss : ss.map Prod.fst = recsP p p.structs.length) : ∀ q ∈ crow ss, ∃ i, i < p.structs.length ∧ (p.structs.getD i []).length = q.1.fields.length ∧ q.1.name = recName i ∧ ∀ f ∈ q.1.fields, ∃ k, k < (p.structs.getD i []).length ∧ f = cF (fldP p i k ((p.structs.getD i []).getD k noPF)) := by
  intro q hq
  obtain ⟨x, hx, rfl⟩ := List.mem_map.1 hq
  have h1 : x.1 ∈ recsP p p.structs.length := by rw [← hss]; exact List.mem_map.2 ⟨x, hx, rfl⟩
  obtain ⟨i, hi, h2⟩ := List.mem_map.1 h1
  refine ⟨i, List.mem_range.1 hi, ?_, by rw [← h2]; rfl, fun f hf => ?_⟩
  · show _ = (x.1.fields.map cF).length
    rw [← h2]
    show _ = ((fldsP p i _ _).map cF).length
    rw [List.length_map, fldsP_length]
  · obtain ⟨y, hy, rfl⟩ := List.mem_map.1 (show f ∈ x.1.fields.map cF from hf)
    rw [← h2] at hy
    obtain ⟨k, hk, rfl⟩ := List.mem_map.1 (show y ∈ (List.range _).map _ from hy)
    exact ⟨k, List.mem_range.1 hk, rfl⟩
theorem made_ty {p : Plan} {i k : Nat} {f : PF} (hi : i < p.structs.length) : 1 ≤ (cF (fldP p i k f)).kind ∧ (cF (fldP p i k f)).kind ≤ 13 ∧ 0 ≤ (cF (fldP p i k f)).lists ∧ (cF (fldP p i k f)).lists ≤ 3 ∧ ((cF (fldP p i k f)).kind = 13 → 0 ≤ (cF (fldP p i k f)).ref ∧ (cF (fldP p i k f)).ref < p.structs.length) := by
  have hk := kindP_le p i f
  refine ⟨hk.1, hk.2, Int.natCast_nonneg _, ?_, fun h => ⟨Int.natCast_nonneg _, ?_⟩⟩
  · have := Nat.mod_lt f.lists (show 0 < 4 by decide)
    show ((f.lists % 4 : Nat) : Int) ≤ 3
    omega
  · have := refP_struct hi (show kindP p i f = 13 from h)
    show ((refP p i f : Nat) : Int) < _
    omega
theorem made_flds {p : Plan} (hn : PlanNums p) {ss : List (SRec × Value)} (hss : ss.map Prod.fst = recsP p p.structs.length) : FldsOk (crow ss) := by
  intro q hq f hf
  obtain ⟨i, hi, _, _, hall⟩ := made_fld hss q hq
  obtain ⟨k, hk, rfl⟩ := hall f hf
  obtain ⟨h1, h2, h3, h4, _⟩ := made_ty (k := k) (f := (p.structs.getD i []).getD k noPF) hi
  refine ⟨by omega, by omega, by omega, ?_⟩
  show (if _ then numP _ _ _ else 0 : Nat) ≤ _
  split
  · have := numP_max (cntOf p (refP p i ((p.structs.getD i []).getD k noPF))) (kindP p i ((p.structs.getD i []).getD k noPF)) _ (hn i hi k hk)
    omega
  · omega
theorem made_len {p : Plan} {ss : List (SRec × Value)} (hok : planOk p) (hss : ss.map Prod.fst = recsP p p.structs.length) : 1 ≤ ss.length ∧ ss.length ≤ 16 ∧ ss.length = p.structs.length := by
  have hl : ss.length = p.structs.length := by
    have := congrArg List.length hss
    rwa [List.length_map, recsP_length] at this
  rw [hl]
  exact ⟨hok.1, hok.2.1, rfl⟩
end Go.Proofs.YtjeoekggdohhiaaDoor
