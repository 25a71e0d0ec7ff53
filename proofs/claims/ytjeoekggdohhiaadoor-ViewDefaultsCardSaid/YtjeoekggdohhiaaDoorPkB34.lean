/-
  What the hand's Made makes is fit for its value. Conditions: those that each theorem names.
-/
import Derived.Test.YtjeoekggdohhiaaDoorPkB32
namespace Go.Proofs.YtjeoekggdohhiaaDoor
open Go.ChangeShapes Go.WideShapes Go.ChangeAt Go.RowKit Go.Shelf

theorem made_schM {p : Plan} (hok : planOk p) (hn : PlanNums p) {ss : List (SRec × Value)} {es : List (SCho × Value)} (hss : ss.map Prod.fst = recsP p p.structs.length) (hes : es.map Prod.fst = chosP p p.enums.length) : SchM ss (es.map Prod.fst) := by
  have hl : ss.length = p.structs.length := by
    have := congrArg List.length hss
    rwa [List.length_map, recsP_length] at this
  have hel : (es.map Prod.fst).length = p.enums.length := by rw [hes, chosP_length]
  refine ⟨by rw [hl]; exact hok.2.1, fun x hx => ?_⟩
  have h1 : x.1 ∈ recsP p p.structs.length := by rw [← hss]; exact List.mem_map.2 ⟨x, hx, rfl⟩
  obtain ⟨i, hi, h2⟩ := List.mem_map.1 h1
  have hi' : i < p.structs.length := List.mem_range.1 hi
  have hgl : p.structs.getD i [] = p.structs[i] := by rw [List.getD, List.getElem?_eq_getElem hi', Option.getD_some]
  have hlen : x.1.fields.length = (p.structs.getD i []).length := by
    rw [← h2]
    exact fldsP_length _ _ _ _
  refine ⟨by rw [hlen, hgl]; exact (hok.2.2.2 _ (List.getElem_mem hi')).2, fun f hf => ?_⟩
  rw [← h2] at hf
  obtain ⟨k, hk, rfl⟩ := List.mem_map.1 (show f ∈ (List.range _).map _ from hf)
  have hk' := List.mem_range.1 hk
  generalize hq : (p.structs.getD i []).getD k noPF = q
  have hqd : (q.dflt : Int) ≤ 18446744073709551615 := by rw [← hq]; exact hn i hi' k hk'
  have hkl := kindP_le p i q
  have hen : kindP p i q = 10 → refP p i q < (es.map Prod.fst).length ∧ 1 ≤ cntE (es.map Prod.fst) (refP p i q) ∧ cntE (es.map Prod.fst) (refP p i q) = cntOf p (refP p i q) := fun h => by
    obtain ⟨h0, hr⟩ := kind_enum h
    have hlt : refP p i q < p.enums.length := by rw [hr]; exact Nat.mod_lt _ (by omega)
    have hc : cntE (es.map Prod.fst) (refP p i q) = cntOf p (refP p i q) := by
      unfold cntE
      rw [hes, List.getD]
      unfold chosP
      rw [List.getElem?_map, List.getElem?_range hlt]
      simp [choP]
    exact ⟨by rw [hel]; exact hlt, by rw [hc]; unfold cntOf; omega, hc⟩
  have hty : TyM ss.length (es.map Prod.fst) (kindP p i q) (refP p i q) (q.lists % 4) := ⟨hkl.1, hkl.2, by omega, fun h => ⟨(hen h).1, (hen h).2.1⟩, fun h => by rw [hl]; exact refP_struct hi' h⟩
  refine ⟨hty, ?_, fun h0 h10 => ?_⟩
  · show ((if _ then numP _ _ _ else 0 : Nat) : Int) ≤ _
    split
    · exact numP_max _ _ _ hqd
    · decide
  · have h0' : q.lists % 4 = 0 := h0
    have hin : isNumP (kindP p i q) (q.lists % 4) = true := by
      unfold isNumP
      rw [h0', decide_eq_true (k_size hkl.1 h10)]
      rfl
    show fitsT (es.map Prod.fst) (kindP p i q) (refP p i q) 0 (if isNumP (kindP p i q) (q.lists % 4) = true then numP (cntOf p (refP p i q)) (kindP p i q) q.dflt else 0) = true
    rw [if_pos hin]
    have hnt : NumTy (es.map Prod.fst) (kindP p i q) (refP p i q) := ⟨hkl.1, h10, fun h => ⟨(hen h).1, (hen h).2.1⟩⟩
    have hf := num_fits hnt (n := q.dflt) (by omega)
    by_cases hk10 : kindP p i q = 10
    · rwa [(hen hk10).2.2] at hf
    · have he : numP (cntOf p (refP p i q)) (kindP p i q) q.dflt = numP (cntE (es.map Prod.fst) (refP p i q)) (kindP p i q) q.dflt := by
        unfold numP
        rw [if_neg hk10, if_neg hk10]
      rw [he]
      exact hf
end Go.Proofs.YtjeoekggdohhiaaDoor
