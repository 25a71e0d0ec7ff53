/-
  The package lex's token, whatever stands at the place. Conditions: those that the theorem names; the library's tables hold what the row lists.
-/
import Derived.Test.YtmjmblbaojchcaaDoorToken2
namespace Go.Proofs.YtmjmblbaojchcaaDoor
open Go.ChangeShapes Go.WideShapes Go.ChangeAt Go.RowKit Go.Shelf

theorem token_any (p : Option Addr) (n cap i : Nat) (x : Int) (v : Value) (sg : Int → Bool) (zs : List Int) (w : World) (hx : x = i) (hT : Tabs w) (hz : Bytes w p zs) (hn : zs.length = n) (hl : n ≤ 281474976710656) (hi : i ≤ n) (hcap : n ≤ cap) (hk : KindV w v sg) :
    Calls Tryd.prog 35 #[.slice p n cap, .int .i64 x, v] w fun e w' => e = .returned (tokVal (tok okU sg zs i)) ∧ Below w.heap.size w w' := by
  by_cases he : i = n
  · rw [tok_end (show i = zs.length by omega)]
    exact token_end p n cap i x v w hx he
  have hi' : i < n := by omega
  have hiz : i < zs.length := by omega
  obtain ⟨b, off, rfl, _, _⟩ := hz.2 (by rintro rfl; simp at hiz)
  cases h1 : stA zs isLet i
  rotate_left
  · rw [tok_name hiz h1]
    exact token_name b off n cap i x v zs w hx hz hn hl hi' hcap h1
  cases h2 : begins zs i
  rotate_left
  · rw [tok_num hiz h1 h2]
    cases h5 : numBad zs i
    · rw [if_neg (by decide)]
      exact token_num_good b off n cap i x v sg zs w hx hT hz hn hl hi' hcap hk h1 h2 h5
    · rw [if_pos rfl]
      exact token_num_bad b off n cap i x v sg zs w hx hT hz hn hl hi' hcap hk h1 h2 h5
  cases h3 : stA zs (isC 34) i
  rotate_left
  · rw [tok_quo hiz h1 h2 h3]
    cases h5 : quoBad okU zs i
    · rw [if_neg (by decide)]
      exact token_quo_good b off n cap i x v sg zs w hx hT hz hn hl hi' hcap hk h1 h2 h3 h5
    · rw [if_pos rfl]
      exact token_quo_bad b off n cap i x v sg zs w hx hT hz hn hl hi' hcap hk h1 h2 h3 h5
  cases h4 : stA zs sg i
  · rw [tok_none hiz h1 h2 h3 h4]
    exact token_none b off n cap i x v sg zs w hx hT hz hn hl hi' hcap hk h1 h2 h3 h4
  · rw [tok_sign hiz h1 h2 h3 h4]
    exact token_sign b off n cap i x v sg zs w hx hT hz hn hl hi' hcap hk h1 h2 h3 h4
end Go.Proofs.YtmjmblbaojchcaaDoor
