/-
  Plain facts on blanks and remarks, step by step. No run of the program stands in this text. Conditions: those that each theorem names.
-/
import Derived.Test.YtmjmblbaojchcaaDoorLexPlain
namespace Go.Proofs.YtmjmblbaojchcaaDoor
open Go.RowKit

theorem gap_blank {zs : List Int} {i : Nat} (h : stA zs isBlank i = true) : gap zs i = gap zs (i + 1) := by
  unfold gap
  rw [runTo_step h]
theorem slash_not_blank {zs : List Int} {i : Nat} (h : slash2 zs i = true) : stA zs isBlank i = false := by
  unfold slash2 at h
  rw [Bool.and_eq_true] at h
  have e := of_decide_eq_true (show decide (zs.getD i 0 = 47) = true from stA_p h.1)
  rw [stA_of (stA_lt h.1)]
  unfold isBlank
  exact decide_eq_false (by omega)
theorem gap_remark {zs : List Int} {i : Nat} (h : slash2 zs i = true) : gap zs i = gap zs (runTo zs notLf i) := by
  unfold gap
  rw [runTo_stop (slash_not_blank h), gapF_step h]
theorem gap_stop {zs : List Int} {i : Nat} (h1 : stA zs isBlank i = false) (h2 : slash2 zs i = false) : gap zs i = i := by
  unfold gap
  rw [runTo_stop h1, gapF_stop _ h2]
theorem gap_end {zs : List Int} {i : Nat} (h : zs.length ≤ i) : gap zs i = i :=
  gap_stop (stA_ge h) (by unfold slash2; rw [stA_ge h, Bool.false_and])
end Go.Proofs.YtmjmblbaojchcaaDoor
