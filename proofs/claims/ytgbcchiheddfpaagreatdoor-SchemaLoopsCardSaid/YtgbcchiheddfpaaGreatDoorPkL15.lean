/-
  Plain facts on what is read of tokens: names of at most 40 bytes, defaults no longer than the tokens' texts. No run of the program stands in this text. Conditions: those that each theorem names.
-/
import Derived.Test.YtgbcchiheddfpaaGreatDoorPkL1
import Derived.Test.YtgbcchiheddfpaaGreatDoorPkL3
import Derived.Test.YtgbcchiheddfpaaGreatDoorPkL11
namespace Go.Proofs.YtgbcchiheddfpaaGreatDoor
open Go.RowKit

/-! ### what stands at a place hangs on what follows -/
theorem stA_drop (zs : List Int) (p : Int → Bool) (i j : Nat) : stA zs p (i + j) = stA (zs.drop i) p j := by
  unfold stA
  rw [List.length_drop]
  have e : zs.getD (i + j) 0 = (zs.drop i).getD j 0 := by simp [List.getD]
  rw [e]
  by_cases h : i + j < zs.length
  · rw [decide_eq_true h, decide_eq_true (by omega)]
  · rw [decide_eq_false h, decide_eq_false (by omega)]
theorem runTo_drop (zs : List Int) (p : Int → Bool) (i j : Nat) : runTo zs p (i + j) = i + runTo (zs.drop i) p j := by
  unfold runTo
  rw [List.drop_drop]
  omega
theorem sub_drop (zs : List Int) (i a b : Nat) : sub zs (i + a) (i + b) = sub (zs.drop i) a b := by
  unfold sub
  rw [List.drop_drop, show i + b - (i + a) = b - a by omega]
theorem minusTo_drop (zs : List Int) (i : Nat) : minusTo zs i = i + minusTo (zs.drop i) 0 := by
  unfold minusTo
  rw [show stA zs (isC 45) i = stA (zs.drop i) (isC 45) 0 from stA_drop zs (isC 45) i 0]
  split <;> omega
theorem numEnd_drop (zs : List Int) (i : Nat) : numEnd zs i = i + numEnd (zs.drop i) 0 := by
  unfold numEnd
  rw [minusTo_drop, runTo_drop]
theorem numBad_drop (zs : List Int) (i : Nat) : numBad zs i = numBad (zs.drop i) 0 := by
  unfold numBad zeroAhead
  rw [minusTo_drop, runTo_drop, stA_drop, stA_drop, show stA zs (isC 45) i = stA (zs.drop i) (isC 45) 0 from stA_drop zs (isC 45) i 0]
  rw [show i + runTo (zs.drop i) isDig (minusTo (zs.drop i) 0) - (i + minusTo (zs.drop i) 0) = runTo (zs.drop i) isDig (minusTo (zs.drop i) 0) - minusTo (zs.drop i) 0 by omega]
theorem quoEnd_drop (zs : List Int) (i : Nat) : quoEnd zs i = i + quoEnd (zs.drop i) 0 := by
  unfold quoEnd
  exact runTo_drop zs isPlain i 1
theorem quoBad_drop (ok : List Int → Bool) (zs : List Int) (i : Nat) : quoBad ok zs i = quoBad ok (zs.drop i) 0 := by
  unfold quoBad
  rw [quoEnd_drop, stA_drop, sub_drop]
theorem begins_drop (zs : List Int) (i : Nat) : begins zs i = begins (zs.drop i) 0 := by
  unfold begins
  rw [show stA zs isDig i = stA (zs.drop i) isDig 0 from stA_drop zs isDig i 0, show stA zs (isC 45) i = stA (zs.drop i) (isC 45) 0 from stA_drop zs (isC 45) i 0, stA_drop]
def shiftT (i : Nat) (x : Tok × Nat) : Tok × Nat := (⟨x.1.kind, x.1.text, i + x.1.place⟩, i + x.2)
theorem tok_drop (ok : List Int → Bool) (sg : Int → Bool) (zs : List Int) (i : Nat) (hi : i ≤ zs.length) : tok ok sg zs i = (tok ok sg (zs.drop i) 0).map (shiftT i) := by
  have h1 : ∀ p, stA zs p i = stA (zs.drop i) p 0 := fun p => stA_drop zs p i 0
  have h2 : ∀ p, runTo zs p i = i + runTo (zs.drop i) p 0 := fun p => runTo_drop zs p i 0
  have h3 : ∀ a b, sub zs (i + a) (i + b) = sub (zs.drop i) a b := sub_drop zs i
  have h4 : ∀ b, sub zs i (i + b) = sub (zs.drop i) 0 b := fun b => sub_drop zs i 0 b
  have hl : (zs.drop i).length = zs.length - i := List.length_drop
  by_cases he : i = zs.length
  · rw [tok_end he, tok_end (i := 0) (by omega)]
    rfl
  have hi' : i < zs.length := by omega
  have h0 : 0 < (zs.drop i).length := by omega
  cases c1 : stA (zs.drop i) isLet 0
  rotate_left
  · rw [tok_name hi' (by rw [h1]; exact c1), tok_name h0 c1, h2, h4]
    rfl
  cases c2 : begins (zs.drop i) 0
  rotate_left
  · rw [tok_num hi' (by rw [h1]; exact c1) (by rw [begins_drop]; exact c2), tok_num h0 c1 c2, numBad_drop, numEnd_drop, h4]
    cases numBad (zs.drop i) 0 <;> rfl
  cases c3 : stA (zs.drop i) (isC 34) 0
  rotate_left
  · rw [tok_quo hi' (by rw [h1]; exact c1) (by rw [begins_drop]; exact c2) (by rw [h1]; exact c3), tok_quo h0 c1 c2 c3, quoBad_drop, quoEnd_drop, h3]
    cases quoBad ok (zs.drop i) 0
    · rw [if_neg (by decide), if_neg (by decide), Nat.add_assoc]
      rfl
    · rfl
  cases c4 : stA (zs.drop i) sg 0
  · rw [tok_none hi' (by rw [h1]; exact c1) (by rw [begins_drop]; exact c2) (by rw [h1]; exact c3) (by rw [h1]; exact c4), tok_none h0 c1 c2 c3 c4]
    rfl
  · rw [tok_sign hi' (by rw [h1]; exact c1) (by rw [begins_drop]; exact c2) (by rw [h1]; exact c3) (by rw [h1]; exact c4), tok_sign h0 c1 c2 c3 c4, h4]
    rfl
/-! ### the text of a number -/
theorem getD_take (zs : List Int) (k j : Nat) (h : j < k) : (zs.take k).getD j 0 = zs.getD j 0 := by
  simp [List.getD, h]
theorem stA_take (zs : List Int) (p : Int → Bool) (k j : Nat) (h : j < k) : stA (zs.take k) p j = stA zs p j := by
  unfold stA
  rw [getD_take zs k j h, List.length_take]
  by_cases hz : j < zs.length
  · rw [decide_eq_true hz, decide_eq_true (by omega)]
  · rw [decide_eq_false hz, decide_eq_false (by omega)]
theorem numEnd_len (zs : List Int) : minusTo zs 0 ≤ numEnd zs 0 ∧ numEnd zs 0 ≤ zs.length := by
  constructor
  · exact runTo_ge _ _ _
  · unfold numEnd
    refine runTo_le _ _ _ ?_
    rcases minusTo_cases zs with ⟨_, h, h2, _⟩ | ⟨_, h⟩ <;> omega
theorem take_minus (zs : List Int) : minusTo (zs.take (numEnd zs 0)) 0 = minusTo zs 0 ∧ (0 < numEnd zs 0 → stA (zs.take (numEnd zs 0)) (isC 45) 0 = stA zs (isC 45) 0) := by
  have h1 : 0 < numEnd zs 0 → stA (zs.take (numEnd zs 0)) (isC 45) 0 = stA zs (isC 45) 0 := stA_take zs _ _ 0
  refine ⟨?_, h1⟩
  have hl := (numEnd_len zs).1
  rcases minusTo_cases zs with ⟨a1, a2, _, _⟩ | ⟨a1, a2⟩
  · unfold minusTo at a2 ⊢
    rw [h1 (by unfold minusTo at hl; omega)]
  · rw [a2]
    unfold minusTo
    by_cases h0 : 0 < numEnd zs 0
    · rw [h1 h0, if_neg (by rw [a1]; decide)]
    · rw [stA_ge (by rw [List.length_take]; omega)]
      rfl
theorem take_numEnd (zs : List Int) : numEnd (zs.take (numEnd zs 0)) 0 = numEnd zs 0 ∧ (zs.take (numEnd zs 0)).length = numEnd zs 0 := by
  obtain ⟨h1, h2⟩ := numEnd_len zs
  have hl : (zs.take (numEnd zs 0)).length = numEnd zs 0 := by rw [List.length_take]; omega
  refine ⟨?_, hl⟩
  rw [show numEnd (zs.take (numEnd zs 0)) 0 = runTo (zs.take (numEnd zs 0)) isDig (minusTo (zs.take (numEnd zs 0)) 0) from rfl, (take_minus zs).1]
  refine runTo_unique h1 (fun j a b => ?_) (stA_ge (by rw [hl]; exact Nat.le_refl _))
  rw [stA_take zs _ _ j b]
  exact runTo_all zs isDig (minusTo zs 0) j a b
theorem numBad_text (zs : List Int) : numBad zs 0 = (!goodN (zs.take (numEnd zs 0)) || stA zs isLet (numEnd zs 0)) := by
  obtain ⟨e1, e2⟩ := take_numEnd zs
  obtain ⟨m1, m2⟩ := take_minus zs
  obtain ⟨h1, h2⟩ := numEnd_len zs
  unfold goodN
  rw [e1, e2, decide_eq_true rfl, Bool.and_true, Bool.not_not]
  unfold numBad zeroAhead
  rw [m1]
  have r1 : runTo zs isDig (minusTo zs 0) = numEnd zs 0 := rfl
  have r2 : runTo (zs.take (numEnd zs 0)) isDig (minusTo zs 0) = numEnd zs 0 := by
    rw [← m1]
    exact e1
  rw [r1, r2]
  by_cases hk : numEnd zs 0 - minusTo zs 0 = 0
  · rw [decide_eq_true hk]
    simp
  · rw [stA_take zs (isC 48) _ _ (by omega), m2 (by omega), stA_ge (p := isLet) (i := numEnd zs 0) (zs := zs.take (numEnd zs 0)) (by rw [e2]; exact Nat.le_refl _)]
    generalize decide (numEnd zs 0 - minusTo zs 0 = 0) = a
    generalize decide (20 < numEnd zs 0 - minusTo zs 0) = b
    generalize stA zs isLet (numEnd zs 0) = l
    generalize (stA zs (isC 48) (minusTo zs 0) && (stA zs (isC 45) 0 || decide (1 < numEnd zs 0 - minusTo zs 0))) = z
    cases a <;> cases b <;> cases l <;> cases z <;> rfl

/-! ### tokens and their texts -/
def full (t : Tok) : List Int := if t.kind = 3 then 34 :: (t.text ++ [34]) else t.text
theorem full_plain (k : Int) (x : List Int) (p : Nat) (h : k ≠ 3) : full ⟨k, x, p⟩ = x := if_neg h
theorem full_quo (x : List Int) (p : Nat) : full ⟨3, x, p⟩ = 34 :: (x ++ [34]) := if_pos rfl
theorem kind_iff {k : Int} {ss : List Int} (hk : k ≠ 0) (h0 : ss ≠ []) : (k = 0 ↔ ss = []) := ⟨fun h => absurd h hk, fun h => absurd h h0⟩
def Fine (ok : List Int → Bool) (sg : Int → Bool) (t : Tok) : Prop :=
  (t.kind = 0 ∧ t.text = []) ∨
  (t.kind = 1 ∧ t.text ≠ [] ∧ isLet (t.text.getD 0 0) = true ∧ ∀ c ∈ t.text, (isLet c || isDig c) = true) ∨
  (t.kind = 2 ∧ goodN t.text = true) ∨
  (t.kind = 3 ∧ (∀ c ∈ t.text, isPlain c = true) ∧ ok t.text = true) ∨
  (t.kind = 4 ∧ ∃ c, t.text = [c] ∧ sg c = true ∧ isLet c = false ∧ isDig c = false ∧ c ≠ 34)
theorem sub_zero (zs : List Int) (k : Nat) : sub zs 0 k = zs.take k := by unfold sub; simp
theorem runTo_zero (zs : List Int) (p : Int → Bool) : runTo zs p 0 = (zs.takeWhile p).length := by unfold runTo; simp
theorem take_run (zs : List Int) (p : Int → Bool) : zs.take (runTo zs p 0) = zs.takeWhile p := by
  rw [runTo_zero]
  conv => lhs; rw [← List.takeWhile_append_dropWhile (p := p) (l := zs)]
  rw [List.takeWhile_append_dropWhile, ← List.prefix_iff_eq_take.1 (List.takeWhile_prefix p)]
theorem mem_takeWhile {zs : List Int} {p : Int → Bool} {c : Int} (h : c ∈ zs.takeWhile p) : p c = true := by
  have := List.all_takeWhile (p := p) (l := zs)
  exact List.all_eq_true.1 this c h
theorem tok_fine {ok : List Int → Bool} {sg : Int → Bool} {ss : List Int} {t : Tok} {e : Nat} (h : tok ok sg ss 0 = some (t, e)) :
    Fine ok sg t ∧ t.place = 0 ∧ e = (full t).length ∧ ss.take e = full t ∧ (t.kind = 0 ↔ ss = []) := by
  by_cases h0 : ss = []
  · subst h0
    rw [tok_end (zs := []) (i := 0) rfl] at h
    cases h
    exact ⟨.inl ⟨rfl, rfl⟩, rfl, rfl, rfl, by simp⟩
  have hl : 0 < ss.length := List.length_pos_iff.2 h0
  cases c1 : stA ss isLet 0
  rotate_left
  · rw [tok_name hl c1] at h
    cases h
    have hq : stA ss (fun c => isLet c || isDig c) 0 = true := by
      rw [stA_of hl] at c1 ⊢
      simp only [c1, Bool.true_or]
    have hne : 0 < runTo ss (fun c => isLet c || isDig c) 0 := by rw [runTo_step hq]; exact runTo_ge _ _ _
    have hle := runTo_le ss (fun c => isLet c || isDig c) 0 (Nat.zero_le _)
    refine ⟨.inr (.inl ⟨rfl, ?_, ?_, ?_⟩), rfl, ?_, ?_, ?_⟩
    · intro he
      have := congrArg List.length he
      rw [sub_zero, List.length_take, List.length_nil] at this
      omega
    · show isLet ((sub ss 0 _).getD 0 0) = true
      rw [sub_zero, getD_take _ _ _ hne]
      exact stA_p c1
    · intro c hc
      rw [sub_zero, take_run] at hc
      exact mem_takeWhile hc
    · rw [full_plain _ _ _ (by decide), sub_zero, List.length_take]
      omega
    · rw [full_plain _ _ _ (by decide), sub_zero]
    · exact kind_iff (show (1 : Int) ≠ 0 by decide) h0
  cases c2 : begins ss 0
  rotate_left
  · rw [tok_num hl c1 c2] at h
    cases hb : numBad ss 0
    · rw [hb, if_neg (by decide)] at h
      cases h
      have hg : goodN (ss.take (numEnd ss 0)) = true := by
        rw [numBad_text, Bool.or_eq_false_iff, Bool.not_eq_false'] at hb
        exact hb.1
      have hle := (numEnd_len ss).2
      refine ⟨.inr (.inr (.inl ⟨rfl, by rw [sub_zero]; exact hg⟩)), rfl, ?_, ?_, ?_⟩
      · rw [full_plain _ _ _ (by decide), sub_zero, List.length_take]
        omega
      · rw [full_plain _ _ _ (by decide), sub_zero]
      · exact kind_iff (show (2 : Int) ≠ 0 by decide) h0
    · rw [hb, if_pos rfl] at h
      cases h
  cases c3 : stA ss (isC 34) 0
  rotate_left
  · rw [tok_quo hl c1 c2 c3] at h
    cases hb : quoBad ok ss 0
    · rw [hb, if_neg (by decide)] at h
      cases h
      unfold quoBad at hb
      rw [Bool.or_eq_false_iff, Bool.not_eq_false', Bool.not_eq_false'] at hb
      have hlt := stA_lt hb.1
      have h34 : ss.getD 0 0 = 34 := of_decide_eq_true (show decide (ss.getD 0 0 = 34) = true from stA_p c3)
      have he34 : ss.getD (quoEnd ss 0) 0 = 34 := of_decide_eq_true (show decide (ss.getD (quoEnd ss 0) 0 = 34) = true from stA_p hb.1)
      have hge : 1 ≤ quoEnd ss 0 := runTo_ge ss isPlain 1
      have hsub : ss = 34 :: (sub ss 1 (quoEnd ss 0) ++ 34 :: ss.drop (quoEnd ss 0 + 1)) := by
        have e1 : ss = 34 :: ss.drop 1 := by
          conv => lhs; rw [show ss = ss.drop 0 from rfl, drop_cons hl, h34]
        have e2 : ss.drop 1 = sub ss 1 (quoEnd ss 0) ++ ss.drop (quoEnd ss 0) := by
          unfold sub
          conv => lhs; rw [← List.take_append_drop (quoEnd ss 0 - 1) (ss.drop 1)]
          rw [List.drop_drop, show 1 + (quoEnd ss 0 - 1) = quoEnd ss 0 by omega]
        have e3 : ss.drop (quoEnd ss 0) = 34 :: ss.drop (quoEnd ss 0 + 1) := by rw [drop_cons hlt, he34]
        rw [← e3, ← e2]
        exact e1
      have hlen : (sub ss 1 (quoEnd ss 0)).length = quoEnd ss 0 - 1 := by
        unfold sub
        rw [List.length_take, List.length_drop]
        omega
      refine ⟨.inr (.inr (.inr (.inl ⟨rfl, ?_, hb.2⟩))), rfl, ?_, ?_, ?_⟩
      · intro c hc
        obtain ⟨j, hj, rfl⟩ := List.mem_iff_getElem.1 hc
        have hj' : j < quoEnd ss 0 - 1 := by rw [← hlen]; exact hj
        have hp := stA_p (runTo_all ss isPlain 1 (1 + j) (by omega) (by show 1 + j < quoEnd ss 0; omega))
        have e : (sub ss (0 + 1) (quoEnd ss 0))[j] = ss.getD (1 + j) 0 := by
          have h2 : j < ss.length - 1 := by omega
          have h3 : j + 1 < ss.length := by omega
          unfold sub
          rw [Nat.add_comm 1 j]
          simp [List.getD, h3]
        rw [e]
        exact hp
      · rw [full_quo]
        simp only [List.length_cons, List.length_append, List.length_nil]
        show _ = (sub ss 1 (quoEnd ss 0)).length + (0 + 1) + 1
        omega
      · rw [full_quo]
        show ss.take (quoEnd ss 0 + 1) = 34 :: (sub ss 1 (quoEnd ss 0) ++ [34])
        have e := congrArg (List.take (quoEnd ss 0 + 1)) hsub
        rw [e, List.take_succ_cons, show sub ss 1 (quoEnd ss 0) ++ 34 :: ss.drop (quoEnd ss 0 + 1) = (sub ss 1 (quoEnd ss 0) ++ [34]) ++ ss.drop (quoEnd ss 0 + 1) by simp]
        rw [List.take_append_of_le_length (by simp; omega), List.take_of_length_le (by simp; omega)]
      · exact kind_iff (show (3 : Int) ≠ 0 by decide) h0
    · rw [hb, if_pos rfl] at h
      cases h
  cases c4 : stA ss sg 0
  · rw [tok_none hl c1 c2 c3 c4] at h
    cases h
  · rw [tok_sign hl c1 c2 c3 c4] at h
    cases h
    have e : ss.take 1 = [ss.getD 0 0] := by
      conv => lhs; rw [show ss = ss.drop 0 from rfl, drop_cons hl]
      rfl
    unfold begins at c2
    rw [Bool.or_eq_false_iff] at c2
    rw [stA_of hl] at c1 c3 c4
    rw [stA_of hl] at c2
    refine ⟨.inr (.inr (.inr (.inr ⟨rfl, ss.getD 0 0, ?_, c4, c1, c2.1, ?_⟩))), rfl, ?_, ?_, ?_⟩
    · rw [sub_zero]; exact e
    · exact of_decide_eq_false c3
    · rw [full_plain _ _ _ (by decide), sub_zero, List.length_take]
      omega
    · rw [full_plain _ _ _ (by decide), sub_zero]
    · exact kind_iff (show (4 : Int) ≠ 0 by decide) h0
end Go.Proofs.YtgbcchiheddfpaaGreatDoor
namespace Go.Proofs.YtgbcchiheddfpaaGreatDoor
open Go.RowKit

def Chain (ok : List Int → Bool) (sg : Int → Bool) (zs : List Int) : Nat → List Tok → Prop
  | _, [] => False
  | i, t :: r => ∃ b, tok ok sg zs (gap zs i) = some (t, b) ∧ ((t.kind = 0 ∧ r = []) ∨ (t.kind ≠ 0 ∧ Chain ok sg zs b r))
theorem chain_of {ok : List Int → Bool} {sg : Int → Bool} {zs : List Int} {l : List Tok} {p : Nat} : ∀ (f i : Nat) (l0 : List Tok), f + l0.length = 2049 → l0.length ≤ 2048 → toksF ok sg zs f i l0 = (l, 0, p) → ∃ r, l = l0 ++ r ∧ Chain ok sg zs i r ∧ l.length ≤ 2048
  | 0, i, l0, hf, hl, _ => by omega
  | f + 1, i, l0, hf, hl, h => by
    simp only [toksF] at h
    by_cases h1 : l0.length = 2048
    · rw [if_pos h1] at h
      simp at h
    · rw [if_neg h1] at h
      cases ht : tok ok sg zs (gap zs i) with
      | none =>
        rw [ht] at h
        simp at h
      | some x =>
        obtain ⟨t, e⟩ := x
        rw [ht] at h
        simp only at h
        by_cases hk : t.kind = 0
        · rw [if_pos hk] at h
          simp only [Prod.mk.injEq] at h
          obtain ⟨rfl, _, _⟩ := h
          exact ⟨[t], rfl, ⟨e, ht, .inl ⟨hk, rfl⟩⟩, by simp; omega⟩
        · rw [if_neg hk] at h
          obtain ⟨r, hr, hc, hlen⟩ := chain_of f e (l0 ++ [t]) (by simp; omega) (by simp; omega) h
          exact ⟨t :: r, by rw [hr]; simp, ⟨e, ht, .inr ⟨hk, hc⟩⟩, hlen⟩
theorem toks_chain {ok : List Int → Bool} {sg : Int → Bool} {zs : List Int} {l : List Tok} {p : Nat} (h : toks ok sg zs = (l, 0, p)) : Chain ok sg zs 0 l ∧ l.length ≤ 2048 := by
  unfold toks at h
  split at h
  · simp at h
  · obtain ⟨r, hr, hc, hl⟩ := chain_of 2049 0 [] rfl (Nat.zero_le _) h
    rw [List.nil_append] at hr
    subst hr
    exact ⟨hc, hl⟩
theorem tok_found {ok : List Int → Bool} {sg : Int → Bool} {zs : List Int} {i : Nat} {t : Tok} {e : Nat} (hi : i ≤ zs.length) (h : tok ok sg zs i = some (t, e)) :
    Fine ok sg t ∧ t.place = i ∧ e = i + (full t).length ∧ sub zs i e = full t ∧ (t.kind = 0 ↔ i = zs.length) := by
  rw [tok_drop ok sg zs i hi] at h
  cases h0 : tok ok sg (zs.drop i) 0 with
  | none => rw [h0] at h; cases h
  | some x =>
    obtain ⟨t0, e0⟩ := x
    rw [h0] at h
    obtain ⟨f1, f2, f3, f4, f5⟩ := tok_fine h0
    have hx : shiftT i (t0, e0) = (t, e) := by injection h
    unfold shiftT at hx
    simp only [Prod.mk.injEq] at hx
    obtain ⟨rfl, rfl⟩ := hx
    have hfull : full ⟨t0.kind, t0.text, i + t0.place⟩ = full t0 := rfl
    refine ⟨f1, ?_, ?_, ?_, ?_⟩
    · show i + t0.place = i
      omega
    · rw [hfull]; omega
    · rw [hfull]
      have := sub_drop zs i 0 e0
      rw [Nat.add_zero] at this
      rw [this, sub_zero]
      exact f4
    · show t0.kind = 0 ↔ _
      rw [f5, List.drop_eq_nil_iff]
      omega
def Left (ok : List Int → Bool) (sg : Int → Bool) (zs : List Int) (i : Nat) (r : List Tok) : Prop := (r = [] ∧ i = zs.length) ∨ Chain ok sg zs i r
theorem left_step {ok : List Int → Bool} {sg : Int → Bool} {zs : List Int} {i : Nat} {t : Tok} {r : List Tok} (hi : i ≤ zs.length) (h : Left ok sg zs i (t :: r)) :
    Fine ok sg t ∧ t.place = gap zs i ∧ gap zs i + (full t).length ≤ zs.length ∧ sub zs (gap zs i) (gap zs i + (full t).length) = full t ∧ (t.kind = 0 ↔ r = []) ∧ Left ok sg zs (gap zs i + (full t).length) r := by
  rcases h with ⟨h, _⟩ | ⟨b, hb, hr⟩
  · cases h
  · have hg := gap_le zs i hi
    have hle := tok_le hg hb
    obtain ⟨f1, f2, f3, f4, f5⟩ := tok_found hg hb
    subst f3
    refine ⟨f1, f2, hle, f4, ?_, ?_⟩
    · rcases hr with ⟨hk, hr⟩ | ⟨hk, hr⟩
      · exact ⟨fun _ => hr, fun _ => hk⟩
      · refine ⟨fun h => absurd h hk, fun h => ?_⟩
        subst h
        exact hr.elim
    · rcases hr with ⟨hk, hr⟩ | ⟨hk, hr⟩
      · refine .inl ⟨hr, ?_⟩
        have h1 := f5.1 hk
        have h2 : full t = [] := by
          rcases f1 with ⟨_, h⟩ | ⟨h, _⟩ | ⟨h, _⟩ | ⟨h, _⟩ | ⟨h, _⟩
          · unfold full
            rw [if_neg (by rw [hk]; decide)]
            exact h
          all_goals (rw [hk] at h; exact absurd h (by decide))
        rw [h2]
        simpa using h1
      · exact .inr hr
def EndLast : List Tok → Prop
  | [] => False
  | t :: r => (t.kind = 0 ∧ r = []) ∨ (t.kind ≠ 0 ∧ EndLast r)
theorem chain_last {ok : List Int → Bool} {sg : Int → Bool} {zs : List Int} : ∀ (l : List Tok) (i : Nat), Chain ok sg zs i l → EndLast l
  | [], _, h => h
  | t :: r, i, ⟨b, _, h⟩ => by
    rcases h with h | ⟨hk, hc⟩
    · exact .inl h
    · exact .inr ⟨hk, chain_last r b hc⟩

/-! ### gaps -/
/-! ### a text made anew -/
end Go.Proofs.YtgbcchiheddfpaaGreatDoor
namespace Go.Proofs.YtgbcchiheddfpaaGreatDoor
open Go.RowKit

def AllB (r : List Tok) : Prop := ∀ t ∈ r, t.text.length ≤ 281474976710656
theorem AllB.tail {r : List Tok} (h : AllB r) : AllB r.tail := fun t ht => h t (List.mem_of_mem_tail ht)
theorem AllB.hd {r : List Tok} (h : AllB r) : (hd r).text.length ≤ 281474976710656 := by
  cases r with
  | nil => exact Nat.zero_le _
  | cons t q => exact h t List.mem_cons_self
def Gv {α : Type} (P : α → Prop) : Res α → Prop
  | .ok a r => P a ∧ AllB r
  | .no _ _ => True
theorem gv_bind {α β : Type} {P : α → Prop} {Q : β → Prop} {x : Res α} {f : α → List Tok → Res β} (h : Gv P x) (hf : ∀ a r, P a → AllB r → Gv Q (f a r)) : Gv Q (x.bind f) := by
  cases x with
  | no c p => trivial
  | ok a r => exact hf a r h.1 h.2
theorem gv_bad {α : Type} {P : α → Prop} (c : Int) (r : List Tok) : Gv P (bad c r : Res α) := trivial
def Short (t : Tok) : Prop := t.text.length ≤ 40
theorem gv_want {s : List Int} {r : List Tok} (h : AllB r) : Gv (fun _ => True) (wantR s r) := by
  unfold wantR
  split
  · exact ⟨trivial, h.tail⟩
  · exact gv_bad _ _
theorem gv_sized {r : List Tok} (h : AllB r) : Gv Short (sizedR r) := by
  unfold sizedR
  split
  · exact gv_bad _ _
  · rename_i hn
    exact ⟨Nat.le_of_not_lt fun hc => hn (.inr hc), h.tail⟩
theorem gv_name {r : List Tok} (h : AllB r) : Gv Short (nameR r) := by
  unfold nameR
  split
  · exact gv_sized h
  · exact gv_bad _ _
theorem gv_label {r : List Tok} (h : AllB r) : Gv Short (labelR r) := by
  unfold labelR
  split
  · exact gv_sized h
  · exact gv_bad _ _
theorem gv_value {r : List Tok} (h : AllB r) : Gv (fun t : Tok => t.text.length ≤ 281474976710656) (valueR r) := by
  unfold valueR
  split
  · exact ⟨h.hd, h.tail⟩
  · exact gv_bad _ _
theorem gv_lists : ∀ (f n : Nat) {r : List Tok}, AllB r → Gv (fun _ => True) (listsR f n r)
  | 0, n, r, h => by
    unfold listsR
    split
    · exact gv_bad _ _
    · exact ⟨trivial, h⟩
  | f + 1, n, r, h => by
    unfold listsR
    split
    · exact gv_bind (gv_want h.tail) fun _ r' _ h' => gv_lists f (n + 1) h'
    · exact ⟨trivial, h⟩
theorem gv_close : ∀ (n : Nat) {r : List Tok}, AllB r → Gv (fun _ => True) (closeR n r)
  | 0, _, h => ⟨trivial, h⟩
  | n + 1, _, h => gv_bind (gv_want h) fun _ _ _ h' => gv_close n h'
theorem gv_ty {r : List Tok} (h : AllB r) : Gv (fun y : RTy => y.name.length ≤ 40) (tyR r) :=
  gv_bind (gv_lists 3 0 h) fun n _ _ h1 => gv_bind (gv_name h1) fun _ _ ht h2 => gv_bind (gv_close n h2) fun _ _ _ h3 => ⟨ht, h3⟩
theorem gv_dflt {r : List Tok} (h : AllB r) : Gv (fun t : Tok => t.text.length ≤ 281474976710656) (dfltR r) := by
  unfold dfltR
  split
  · exact gv_value h.tail
  · exact ⟨Nat.zero_le _, h⟩
def FldOk (f : RField) : Prop := f.name.length ≤ 40 ∧ f.ty.name.length ≤ 40 ∧ f.dflt.text.length ≤ 281474976710656
theorem gv_field {r : List Tok} (h : AllB r) : Gv FldOk (fieldR r) :=
  gv_bind (gv_label h) fun _ _ ht h1 => gv_bind (gv_want h1) fun _ _ _ h2 => gv_bind (gv_ty h2) fun _ _ hy h3 => gv_bind (gv_dflt h3) fun _ _ hd h4 => gv_bind (gv_want h4) fun _ _ _ h5 => ⟨⟨ht, hy, hd⟩, h5⟩
theorem snoc_all {α : Type} {P : α → Prop} {l : List α} {x : α} (h : ∀ y ∈ l, P y) (hx : P x) : ∀ y ∈ l ++ [x], P y := by
  intro y hy
  rcases List.mem_append.1 hy with hy | hy
  · exact h y hy
  · rw [List.mem_singleton.1 hy]
    exact hx
theorem gv_fields : ∀ (f : Nat) {acc : List RField} {r : List Tok}, (∀ x ∈ acc, FldOk x) → AllB r → Gv (fun l : List RField => ∀ x ∈ l, FldOk x) (fieldsR f acc r)
  | 0, acc, r, ha, h => gv_bad _ _
  | f + 1, acc, r, ha, h => by
    unfold fieldsR
    split
    · exact ⟨ha, h.tail⟩
    · exact gv_bind (gv_field h) fun x r' hx h' => gv_fields f (snoc_all ha hx) h'
def RecOk (s : RRec) : Prop := s.name.length ≤ 40 ∧ ∀ f ∈ s.fields, FldOk f
theorem gv_rec {r : List Tok} (h : AllB r) : Gv RecOk (recR r) :=
  gv_bind (gv_name h) fun t r1 ht h1 => gv_bind (gv_want h1) fun _ r2 _ h2 => gv_bind (gv_fields r2.length (fun _ hx => by cases hx) h2) fun fs r3 hf h3 => ⟨⟨ht, hf⟩, h3⟩
theorem gv_comma {r : List Tok} (h : AllB r) : Gv (fun _ => True) (commaR r) := by
  unfold commaR
  split
  · exact ⟨trivial, h⟩
  · exact gv_want h
theorem gv_names : ∀ (f : Nat) {acc : List Tok} {r : List Tok}, (∀ x ∈ acc, Short x) → AllB r → Gv (fun l : List Tok => ∀ x ∈ l, Short x) (namesR f acc r)
  | 0, acc, r, ha, h => gv_bad _ _
  | f + 1, acc, r, ha, h => by
    unfold namesR
    split
    · exact ⟨ha, h.tail⟩
    · exact gv_bind (gv_name h) fun t r1 ht h1 => gv_bind (gv_comma h1) fun _ r2 _ h2 => gv_names f (snoc_all ha ht) h2
def ChoOk (s : RCho) : Prop := s.name.length ≤ 40 ∧ ∀ t ∈ s.names, Short t
theorem gv_cho {r : List Tok} (h : AllB r) : Gv ChoOk (choR r) :=
  gv_bind (gv_name h) fun t r1 ht h1 => gv_bind (gv_want h1) fun _ r2 _ h2 => gv_bind (gv_names r2.length (fun _ hx => by cases hx) h2) fun fs r3 hf h3 => ⟨⟨ht, hf⟩, h3⟩
structure RawFit (x : RRaw) : Prop where
  st : ∀ s ∈ x.structs, RecOk s
  en : ∀ e ∈ x.enums, ChoOk e
  rt : ∀ t ∈ x.roots, Short t
theorem gv_part {a : RRaw} {r : List Tok} (ha : RawFit a) (h : AllB r) : Gv RawFit (partR a r) := by
  unfold partR
  split
  · exact gv_bind (gv_rec h.tail) fun s r' hs h' => ⟨⟨snoc_all ha.st hs, ha.en, ha.rt⟩, h'⟩
  · split
    · exact gv_bind (gv_cho h.tail) fun s r' hs h' => ⟨⟨ha.st, snoc_all ha.en hs, ha.rt⟩, h'⟩
    · split
      · exact gv_bind (gv_name h.tail) fun t r1 ht h1 => gv_bind (gv_want h1) fun _ r' _ h' => ⟨⟨ha.st, ha.en, snoc_all ha.rt ht⟩, h'⟩
      · exact gv_bad _ _
theorem gv_schema : ∀ (f : Nat) {a : RRaw} {r : List Tok}, RawFit a → AllB r → Gv RawFit (schemaR f a r)
  | 0, a, r, ha, h => gv_bad _ _
  | f + 1, a, r, ha, h => by
    unfold schemaR
    split
    · exact ⟨ha, h⟩
    · exact gv_bind (gv_part ha h) fun a' r' ha' h' => gv_schema f ha' h'
theorem rawR_fit {l : List Tok} (h : AllB l) : Gv RawFit (rawR l) :=
  gv_schema l.length ⟨(fun _ hx => by cases hx), (fun _ hx => by cases hx), (fun _ hx => by cases hx)⟩ h
theorem RawFit.ok {x : RRaw} (h : RawFit x) : RawOk x where
  en := fun e he => ⟨Nat.le_trans (h.en e he).1 (by decide), fun t ht => Nat.le_trans ((h.en e he).2 t ht) (by decide)⟩
  st := fun s hs => ⟨Nat.le_trans (h.st s hs).1 (by decide), fun f hf => ⟨((h.st s hs).2 f hf).2.2, Nat.le_trans ((h.st s hs).2 f hf).1 (by decide)⟩⟩
end Go.Proofs.YtgbcchiheddfpaaGreatDoor
