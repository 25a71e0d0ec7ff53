/-
  A struct in a row, plain: its numbers' places, its groups, its bytes. No run of the program stands in this text. Conditions: those that each theorem names.
-/
import Derived.Test.YtdlfndjgncdgfaaDoorLayWP
namespace Go.Proofs.YtdlfndjgncdgfaaDoor
open Go.ChangeShapes Go.WideShapes Go.ChangeAt Go.RowKit Go.Shelf

structure RowSt where
  pl : List Int
  size : Int
  gr : List Int
  bt : List Int
def rowStep (s : RowSt) (k : Nat) (f : SFld) : RowSt :=
  if isNumP f.kind f.lists = true then ⟨s.pl.set k s.size, s.size + kSize f.kind, s.gr, s.bt⟩
  else if 0 < f.lists ∨ f.kind = 13 then ⟨s.pl, s.size, s.gr ++ [(k : Int)], s.bt⟩ else ⟨s.pl, s.size, s.gr, s.bt ++ [(k : Int)]⟩
/-- The first k fields in a row. -/
def rowUp (fs : List SFld) : Nat → RowSt
  | 0 => ⟨List.replicate fs.length 0, 0, [], []⟩
  | k + 1 => rowStep (rowUp fs k) k (fs.getD k noSF)
theorem rowUp_step (fs : List SFld) (k : Nat) (hk : k < fs.length) : rowUp fs (k + 1) = rowStep (rowUp fs k) k fs[k] := by
  show rowStep (rowUp fs k) k (fs.getD k noSF) = _
  rw [List.getD, List.getElem?_eq_getElem hk, Option.getD_some]
theorem rowStep_num {s : RowSt} {k : Nat} {f : SFld} (h : isNumP f.kind f.lists = true) : rowStep s k f = ⟨s.pl.set k s.size, s.size + kSize f.kind, s.gr, s.bt⟩ := if_pos h
theorem rowStep_gr {s : RowSt} {k : Nat} {f : SFld} (h : isNumP f.kind f.lists = false) (h2 : 0 < f.lists ∨ f.kind = 13) : rowStep s k f = ⟨s.pl, s.size, s.gr ++ [(k : Int)], s.bt⟩ := by
  unfold rowStep
  rw [if_neg (by rw [h]; decide), if_pos h2]
theorem rowStep_bt {s : RowSt} {k : Nat} {f : SFld} (h : isNumP f.kind f.lists = false) (h2 : ¬ (0 < f.lists ∨ f.kind = 13)) : rowStep s k f = ⟨s.pl, s.size, s.gr, s.bt ++ [(k : Int)]⟩ := by
  unfold rowStep
  rw [if_neg (by rw [h]; decide), if_neg h2]
theorem rowUp_facts (fs : List SFld) : ∀ k : Nat, (rowUp fs k).pl.length = fs.length ∧ 0 ≤ (rowUp fs k).size ∧ (rowUp fs k).size ≤ 8 * k ∧ (rowUp fs k).gr.length ≤ k ∧ (rowUp fs k).bt.length ≤ k
  | 0 => by simp [rowUp]
  | k + 1 => by
    obtain ⟨h1, h2, h3, h4, h5⟩ := rowUp_facts fs k
    have hz := kSize_bd ((fs.getD k noSF).kind : Int)
    unfold rowUp rowStep
    split
    · simp only [List.length_set]
      omega
    · split
      · simp only [List.length_append, List.length_singleton]
        omega
      · simp only [List.length_append, List.length_singleton]
        omega
/-- A kind that is no number's, no struct's: a text's or bytes'. -/
theorem kind_rest {k l : Nat} (h1 : 1 ≤ k) (h13 : k ≤ 13) (hn : isNumP k l = false) (h : ¬ (0 < l ∨ k = 13)) : l = 0 ∧ (k = 11 ∨ k = 12) := by
  have hl : l = 0 := by omega
  refine ⟨hl, ?_⟩
  have hk : k = 1 ∨ k = 2 ∨ k = 3 ∨ k = 4 ∨ k = 5 ∨ k = 6 ∨ k = 7 ∨ k = 8 ∨ k = 9 ∨ k = 10 ∨ k = 11 ∨ k = 12 := by omega
  subst hl
  rcases hk with rfl | rfl | rfl | rfl | rfl | rfl | rfl | rfl | rfl | rfl | rfl | rfl
  all_goals first | (exact .inl rfl) | (exact .inr rfl) | (exact absurd hn (by decide))
end Go.Proofs.YtdlfndjgncdgfaaDoor
