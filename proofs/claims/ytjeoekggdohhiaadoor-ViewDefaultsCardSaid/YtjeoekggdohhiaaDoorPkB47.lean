/-
  The hand's value and Value: of every type of a made schema they make a value that fits. Conditions: those that each theorem names.
-/
import Derived.Test.YtjeoekggdohhiaaDoorPkB33
import Derived.Test.YtjeoekggdohhiaaDoorPkB36
import Derived.Test.YtjeoekggdohhiaaDoorPkB38
import Derived.Test.YtjeoekggdohhiaaDoorPkB39
import Derived.Test.YtjeoekggdohhiaaDoorPkB40
import Derived.Test.YtjeoekggdohhiaaDoorPkB41
import Derived.Test.YtjeoekggdohhiaaDoorPkB45
namespace Go.Proofs.YtjeoekggdohhiaaDoor
open Go.ChangeShapes Go.WideShapes Go.ChangeAt Go.RowKit Go.Shelf

theorem hval_step (left : Nat) (hl12 : left ≤ 12) (hnx : ∀ q, left = q + 1 → ValAt q) : ValAt left := by
  intro k r l d fk fr fl nm sure b g i bc a bs ss es sv ev root w ht hm hs hg hd hdf
  cases l with
  | zero =>
    have h10 : k ≤ 10 ∨ k = 11 ∨ k = 12 ∨ k = 13 := by have := ht.hi; omega
    rcases h10 with h | rfl | rfl | rfl
    · exact hval_num k r left ⟨ht.lo, h, ht.en⟩ hd (hdf rfl h) hs hg
    · exact hval_text r left hs hg
    · exact hval_data r left hs hg
    · exact hval_struct r left (ht.st rfl) hm hnx hl12 hs hg
  | succ lm =>
    have ht' : TyM ss.length (es.map Prod.fst) k r lm := ⟨ht.lo, ht.hi, by have := ht.li; omega, ht.en, ht.st⟩
    by_cases h0 : lm = 0
    · by_cases hk : k = 13
      · exact hval_list3 k r (lm + 1) lm left rfl ht.li ⟨h0, hk⟩ ht' hm hnx hl12 hs hg
      · exact hval_list2 k r (lm + 1) lm left rfl ht.li ⟨h0, hk⟩ ht' hm hnx hl12 hs hg
    · exact hval_list1 k r (lm + 1) lm left rfl ht.li h0 ht' hm hnx hl12 hs hg
theorem hval_any : ∀ left, left ≤ 12 → ValAt left
  | 0, h => hval_step 0 h (fun q hq => by cases hq)
  | n + 1, h => hval_step (n + 1) h (fun q hq => by injection hq with hq; exact hq ▸ hval_any n (by omega))
end Go.Proofs.YtjeoekggdohhiaaDoor
