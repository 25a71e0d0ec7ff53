/-
  Plain facts on tokens: a token's whole text, with no letter and no digit behind it, is that token. No run of the program stands in this text. Conditions: those that each theorem names.
-/
import Derived.Test.YtmjmblbaojchcaaDoorTokPlain
namespace Go.Proofs.YtmjmblbaojchcaaDoor
open Go.RowKit

theorem stA_left (a b : List Int) (p : Int → Bool) (j : Nat) (h : j < a.length) : stA (a ++ b) p j = stA a p j := by
  have := stA_take (a ++ b) p a.length j h
  rw [List.take_left] at this
  exact this.symm
theorem stA_right (a b : List Int) (p : Int → Bool) (j : Nat) : stA (a ++ b) p (a.length + j) = stA b p j := by
  rw [stA_drop, List.drop_left]
theorem stA_mem {a : List Int} {p : Int → Bool} (h : ∀ c ∈ a, p c = true) (j : Nat) (hj : j < a.length) : stA a p j = true := by
  rw [stA_of hj, List.getD, List.getElem?_eq_getElem hj]
  exact h _ (List.getElem_mem _)
theorem sep_or {r : List Int} (h : Sep r) : stA r (fun c => isLet c || isDig c) 0 = false := by
  obtain ⟨h1, h2⟩ := h
  unfold stA at h1 h2 ⊢
  cases hd : decide (0 < r.length)
  · rfl
  · rw [hd, Bool.true_and] at h1 h2
    rw [Bool.true_and]
    show (isLet _ || isDig _) = false
    rw [h1, h2]
    rfl
theorem let_of_dig {c : Int} (h : isDig c = true) : isLet c = false := by
  have := of_decide_eq_true h
  exact decide_eq_false (by omega)
theorem tok_of_name {ok : List Int → Bool} {sg : Int → Bool} {x rest : List Int} (hne : x ≠ []) (h0 : isLet (x.getD 0 0) = true) (hx : ∀ c ∈ x, (isLet c || isDig c) = true) (hS : Sep rest) : tok ok sg (x ++ rest) 0 = some (⟨1, x, 0⟩, x.length) := by
  have hl : 0 < x.length := List.length_pos_iff.2 hne
  have hr : runTo (x ++ rest) (fun c => isLet c || isDig c) 0 = x.length := by
    refine runTo_unique (Nat.zero_le _) (fun j _ hj => ?_) ?_
    · rw [stA_left _ _ _ _ hj]
      exact stA_mem hx j hj
    · have := stA_right x rest (fun c => isLet c || isDig c) 0
      rw [Nat.add_zero] at this
      rw [this]
      exact sep_or hS
  rw [tok_name (by simp; omega) (by rw [stA_left _ _ _ _ hl, stA_of hl]; exact h0), hr, sub_zero, List.take_left]
theorem good_head {x : List Int} (h : goodN x = true) : x ≠ [] ∧ stA x isLet 0 = false ∧ ∀ rest, begins (x ++ rest) 0 = true := by
  obtain ⟨h1, h2, h3, h4, h5⟩ := (goodN_iff x).1 h
  rw [digs_length] at h1
  have hl : 0 < x.length := by omega
  refine ⟨List.length_pos_iff.1 hl, ?_, fun rest => ?_⟩
  · rw [stA_of hl]
    rcases minusTo_cases x with ⟨m1, m2, m3, m4⟩ | ⟨m1, m2⟩
    · rw [m4]; rfl
    · have := h5 0 (by rw [digs_length]; omega)
      rw [digs_get, m2] at this
      exact let_of_dig this
  · unfold begins
    rcases minusTo_cases x with ⟨m1, m2, m3, m4⟩ | ⟨m1, m2⟩
    · have := h5 0 (by rw [digs_length]; omega)
      rw [digs_get, m2, Nat.add_zero] at this
      rw [stA_left _ _ _ _ hl, stA_left _ _ _ _ hl, stA_left _ _ _ 1 (by omega), m1, stA_of (i := 1) (by omega), this]
      simp
    · have := h5 0 (by rw [digs_length]; omega)
      rw [digs_get, m2, Nat.add_zero] at this
      rw [stA_left _ _ _ _ hl, stA_of hl, this, Bool.true_or]
theorem good_end {x rest : List Int} (h : goodN x = true) (hS : stA rest isDig 0 = false) : numEnd (x ++ rest) 0 = x.length := by
  obtain ⟨hne, _, _⟩ := good_head h
  have hl : 0 < x.length := List.length_pos_iff.2 hne
  obtain ⟨h1, h2, h3, h4, h5⟩ := (goodN_iff x).1 h
  have hm : minusTo (x ++ rest) 0 = minusTo x 0 := by
    unfold minusTo
    rw [stA_left _ _ _ _ hl]
  unfold numEnd
  rw [hm]
  rw [digs_length] at h1 h5
  refine runTo_unique (by omega) (fun j a b => ?_) ?_
  · rw [stA_left _ _ _ _ b, stA_of b]
    have := h5 (j - minusTo x 0) (by omega)
    rw [digs_get, show minusTo x 0 + (j - minusTo x 0) = j by omega] at this
    exact this
  · have := stA_right x rest isDig 0
    rw [Nat.add_zero] at this
    rw [this]
    exact hS
theorem tok_of_num {ok : List Int → Bool} {sg : Int → Bool} {x rest : List Int} (h : goodN x = true) (hS : Sep rest) : tok ok sg (x ++ rest) 0 = some (⟨2, x, 0⟩, x.length) := by
  obtain ⟨hne, hlet, hb⟩ := good_head h
  have hl : 0 < x.length := List.length_pos_iff.2 hne
  have he := good_end h hS.2
  have hbad : numBad (x ++ rest) 0 = false := by
    have := stA_right x rest isLet 0
    rw [Nat.add_zero] at this
    rw [numBad_text, he, List.take_left, h, this, hS.1]
    rfl
  rw [tok_num (by simp; omega) (by rw [stA_left _ _ _ _ hl]; exact hlet) (hb rest), hbad, if_neg (by decide), he, sub_zero, List.take_left]
theorem tok_of_quo {ok : List Int → Bool} {sg : Int → Bool} {x rest : List Int} (hx : ∀ c ∈ x, isPlain c = true) (ho : ok x = true) : tok ok sg (34 :: (x ++ 34 :: rest)) 0 = some (⟨3, x, 0⟩, x.length + 2) := by
  have e1 : ∀ p j, stA (34 :: (x ++ 34 :: rest)) p (1 + j) = stA (x ++ 34 :: rest) p j := fun p j => stA_drop _ p 1 j
  have he : quoEnd (34 :: (x ++ 34 :: rest)) 0 = 1 + x.length := by
    unfold quoEnd
    rw [show (0 : Nat) + 1 = 1 + 0 from rfl, runTo_drop]
    congr 1
    show runTo (x ++ 34 :: rest) isPlain 0 = x.length
    refine runTo_unique (Nat.zero_le _) (fun j _ hj => ?_) ?_
    · rw [stA_left _ _ _ _ hj]
      exact stA_mem hx j hj
    · have := stA_right x (34 :: rest) isPlain 0
      rw [Nat.add_zero] at this
      rw [this]
      rfl
  have hs : sub (34 :: (x ++ 34 :: rest)) (0 + 1) (1 + x.length) = x := by
    unfold sub
    rw [show 1 + x.length - (0 + 1) = x.length by omega]
    show (x ++ 34 :: rest).take x.length = x
    exact List.take_left
  have hq : stA (34 :: (x ++ 34 :: rest)) (isC 34) (1 + x.length) = true := by
    rw [e1]
    have := stA_right x (34 :: rest) (isC 34) 0
    rw [Nat.add_zero] at this
    rw [this]
    rfl
  have hbad : quoBad ok (34 :: (x ++ 34 :: rest)) 0 = false := by
    unfold quoBad
    rw [he, hq, hs, ho]
    rfl
  rw [tok_quo (by simp) rfl rfl rfl, hbad, if_neg (by decide), he, hs]
  congr 2
  omega
theorem tok_of_sign {ok : List Int → Bool} {sg : Int → Bool} {c : Int} {rest : List Int} (h1 : sg c = true) (h2 : isLet c = false) (h3 : isDig c = false) (h4 : c ≠ 34) (hS : Sep rest) : tok ok sg (c :: rest) 0 = some (⟨4, [c], 0⟩, 1) := by
  have hl : 0 < (c :: rest).length := by simp
  have e : ∀ p, stA (c :: rest) p 0 = p c := fun p => stA_of hl
  have hb : begins (c :: rest) 0 = false := by
    unfold begins
    rw [e, e, h3, Bool.false_or, show stA (c :: rest) isDig (0 + 1) = stA rest isDig 0 from stA_drop (c :: rest) isDig 1 0, hS.2, Bool.and_false]
  rw [tok_sign hl (by rw [e]; exact h2) hb (by rw [e]; exact decide_eq_false h4) (by rw [e]; exact h1)]
  rfl
/-- A token's whole text is that token. -/
theorem tok_of {ok : List Int → Bool} {sg : Int → Bool} {t : Tok} {rest : List Int} (hF : Fine ok sg t) (hS : Sep rest) (h0 : t.kind = 0 → rest = []) : tok ok sg (full t ++ rest) 0 = some (⟨t.kind, t.text, 0⟩, (full t).length) := by
  obtain ⟨k, x, p⟩ := t
  rcases hF with ⟨h1, h2⟩ | ⟨h1, h2, h3, h4⟩ | ⟨h1, h2⟩ | ⟨h1, h2, h3⟩ | ⟨h1, c, h2, h3, h4, h5, h6⟩
  · simp only at h1 h2 h0
    subst h1 h2
    rw [h0 rfl, full_plain _ _ _ (by decide)]
    exact tok_end rfl
  · simp only at h1 h2 h3 h4
    subst h1
    rw [full_plain _ _ _ (by decide)]
    exact tok_of_name h2 h3 h4 hS
  · simp only at h1 h2
    subst h1
    rw [full_plain _ _ _ (by decide)]
    exact tok_of_num h2 hS
  · simp only at h1 h2 h3
    subst h1
    rw [full_quo]
    have e : (34 :: (x ++ [34])) ++ rest = 34 :: (x ++ 34 :: rest) := by simp
    rw [e, tok_of_quo h2 h3]
    simp
  · simp only at h1 h2
    subst h1 h2
    rw [full_plain _ _ _ (by decide)]
    exact tok_of_sign h3 h4 h5 h6 hS
end Go.Proofs.YtmjmblbaojchcaaDoor
