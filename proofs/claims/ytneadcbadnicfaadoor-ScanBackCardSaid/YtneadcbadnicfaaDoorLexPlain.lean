/-
  Plain facts on bytes as a text's tokens: where runs of a kind end, blanks and remarks, numbers, quoted texts, the token at a place, and all of a text's tokens. No run of the program stands in this text. Conditions: those that each theorem names.
-/
import Derived.WalkKit
namespace Go.Proofs.YtneadcbadnicfaaDoor
open Go.RowKit

def isBlank (c : Int) : Bool := decide (c = 32 ∨ c = 9 ∨ c = 10 ∨ c = 13)
def isDig (c : Int) : Bool := decide (48 ≤ c ∧ c ≤ 57)
def isLet (c : Int) : Bool := decide (c = 95 ∨ (97 ≤ c ∧ c ≤ 122) ∨ (65 ≤ c ∧ c ≤ 90))
def isPlain (c : Int) : Bool := decide (c ≠ 34 ∧ c ≠ 92 ∧ c ≠ 127 ∧ ¬ (0 ≤ c ∧ c ≤ 31))
def isC (x : Int) (c : Int) : Bool := decide (c = x)
def notLf (c : Int) : Bool := decide (c ≠ 10)
/-- Does a byte of a kind stand at a place? -/
def stA (zs : List Int) (p : Int → Bool) (i : Nat) : Bool := decide (i < zs.length) && p (zs.getD i 0)
/-- The place behind all bytes of a kind that stand from a place on. -/
def runTo (zs : List Int) (p : Int → Bool) (i : Nat) : Nat := i + ((zs.drop i).takeWhile p).length

theorem stA_lt {zs : List Int} {p : Int → Bool} {i : Nat} (h : stA zs p i = true) : i < zs.length := by
  unfold stA at h
  simp at h
  exact h.1
theorem stA_p {zs : List Int} {p : Int → Bool} {i : Nat} (h : stA zs p i = true) : p (zs.getD i 0) = true := by
  unfold stA at h
  rw [Bool.and_eq_true] at h
  exact h.2
theorem stA_of {zs : List Int} {p : Int → Bool} {i : Nat} (h : i < zs.length) : stA zs p i = p (zs.getD i 0) := by
  unfold stA
  rw [decide_eq_true h, Bool.true_and]
theorem stA_ge {zs : List Int} {p : Int → Bool} {i : Nat} (h : zs.length ≤ i) : stA zs p i = false := by
  unfold stA
  rw [decide_eq_false (by omega), Bool.false_and]
theorem drop_cons {zs : List Int} {i : Nat} (h : i < zs.length) : zs.drop i = zs.getD i 0 :: zs.drop (i + 1) := by
  rw [List.drop_eq_getElem_cons h]
  simp [List.getD, h]
theorem runTo_stop {zs : List Int} {p : Int → Bool} {i : Nat} (h : stA zs p i = false) : runTo zs p i = i := by
  unfold runTo
  by_cases hi : i < zs.length
  · rw [stA_of hi] at h
    rw [drop_cons hi, List.takeWhile_cons, h]
    simp
  · rw [List.drop_eq_nil_of_le (by omega)]
    simp
theorem runTo_step {zs : List Int} {p : Int → Bool} {i : Nat} (h : stA zs p i = true) : runTo zs p i = runTo zs p (i + 1) := by
  unfold runTo
  rw [drop_cons (stA_lt h), List.takeWhile_cons, stA_p h]
  simp
  omega
theorem runTo_ge (zs : List Int) (p : Int → Bool) (i : Nat) : i ≤ runTo zs p i := by unfold runTo; omega
theorem length_takeWhile_le' (p : Int → Bool) : ∀ l : List Int, (l.takeWhile p).length ≤ l.length
  | [] => by simp
  | a :: r => by
    have := length_takeWhile_le' p r
    rw [List.takeWhile_cons]
    split <;> simp <;> omega
theorem runTo_le (zs : List Int) (p : Int → Bool) (i : Nat) (h : i ≤ zs.length) : runTo zs p i ≤ zs.length := by
  unfold runTo
  have := length_takeWhile_le' p (zs.drop i)
  rw [List.length_drop] at this
  omega
/-- By induction on what is left. -/
theorem runTo_rec (zs : List Int) (p : Int → Bool) (Q : Nat → Prop) (hend : ∀ i, stA zs p i = false → Q i) (hstep : ∀ i, stA zs p i = true → Q (i + 1) → Q i) : ∀ i, Q i := by
  have h : ∀ n i, zs.length ≤ n + i → Q i := by
    intro n
    induction n with
    | zero => intro i hi; exact hend i (stA_ge (by omega))
    | succ n ih =>
      intro i hi
      cases hs : stA zs p i
      · exact hend i hs
      · exact hstep i hs (ih (i + 1) (by omega))
  intro i
  exact h zs.length i (by omega)
theorem runTo_end (zs : List Int) (p : Int → Bool) : ∀ i, stA zs p (runTo zs p i) = false :=
  runTo_rec zs p _ (fun i h => by rw [runTo_stop h]; exact h) (fun i h ih => by rw [runTo_step h]; exact ih)
theorem runTo_all (zs : List Int) (p : Int → Bool) : ∀ i, ∀ j, i ≤ j → j < runTo zs p i → stA zs p j = true :=
  runTo_rec zs p _ (fun i h j h1 h2 => by rw [runTo_stop h] at h2; omega) (fun i h ih j h1 h2 => by
    rw [runTo_step h] at h2
    rcases Nat.lt_or_ge i j with hj | hj
    · exact ih j (by omega) h2
    · obtain rfl : i = j := by omega
      exact h)
theorem runTo_unique {zs : List Int} {p : Int → Bool} {i k : Nat} (h1 : i ≤ k) (h2 : ∀ j, i ≤ j → j < k → stA zs p j = true) (h3 : stA zs p k = false) : runTo zs p i = k := by
  have h : ∀ n i, i + n = k → (∀ j, i ≤ j → j < k → stA zs p j = true) → runTo zs p i = k := by
    intro n
    induction n with
    | zero => intro i hi _; obtain rfl : i = k := by omega
              exact runTo_stop h3
    | succ n ih =>
      intro i hi hj
      rw [runTo_step (hj i (Nat.le_refl _) (by omega))]
      exact ih (i + 1) (by omega) (fun j a b => hj j (by omega) b)
  exact h (k - i) i (by omega) h2
theorem runTo_idem (zs : List Int) (p : Int → Bool) (i j : Nat) (h1 : i ≤ j) (h2 : j ≤ runTo zs p i) : runTo zs p j = runTo zs p i :=
  runTo_unique h2 (fun k a b => runTo_all zs p i k (by omega) b) (runTo_end zs p i)
theorem runTo_congr {zs : List Int} {p q : Int → Bool} (i : Nat) (h : ∀ j, i ≤ j → stA zs p j = stA zs q j) : runTo zs p i = runTo zs q i :=
  runTo_unique (runTo_ge _ _ _) (fun j a b => by rw [h j a]; exact runTo_all zs q i j a b) (by rw [h _ (runTo_ge _ _ _)]; exact runTo_end zs q i)

/-! ### blanks and remarks -/
/-- Do two slashes stand at a place? -/
def slash2 (zs : List Int) (i : Nat) : Bool := stA zs (isC 47) i && stA zs (isC 47) (i + 1)
def gapF (zs : List Int) : Nat → Nat → Nat
  | 0, i => i
  | f + 1, i => if slash2 zs i = true then gapF zs f (runTo zs isBlank (runTo zs notLf i)) else i
/-- The place behind the blanks and remarks that stand from a place on. -/
def gap (zs : List Int) (i : Nat) : Nat := gapF zs zs.length (runTo zs isBlank i)
theorem slash2_lt {zs : List Int} {i : Nat} (h : slash2 zs i = true) : i + 1 < zs.length := by
  unfold slash2 at h
  rw [Bool.and_eq_true] at h
  exact stA_lt h.2
theorem slash2_run {zs : List Int} {i : Nat} (h : slash2 zs i = true) : i + 2 ≤ runTo zs notLf i := by
  unfold slash2 at h
  rw [Bool.and_eq_true] at h
  have e : ∀ j, stA zs (isC 47) j = true → stA zs notLf j = true := fun j hj => by
    rw [stA_of (stA_lt hj)]
    have := of_decide_eq_true (show decide (zs.getD j 0 = 47) = true from stA_p hj)
    unfold notLf
    exact decide_eq_true (by omega)
  rw [runTo_step (e _ h.1), runTo_step (e _ h.2)]
  exact runTo_ge _ _ _
theorem remark_grows {zs : List Int} {i : Nat} (h : slash2 zs i = true) : i + 2 ≤ runTo zs isBlank (runTo zs notLf i) :=
  Nat.le_trans (slash2_run h) (runTo_ge _ _ _)
theorem gapF_fuel (zs : List Int) : ∀ f g i, zs.length ≤ f + i → zs.length ≤ g + i → gapF zs f i = gapF zs g i
  | 0, 0, _, _, _ => rfl
  | 0, g + 1, i, hf, _ => by
    simp only [gapF]
    rw [if_neg (fun h => by have := slash2_lt h; omega)]
  | f + 1, 0, i, _, hg => by
    simp only [gapF]
    rw [if_neg (fun h => by have := slash2_lt h; omega)]
  | f + 1, g + 1, i, hf, hg => by
    simp only [gapF]
    split
    · rename_i h
      have := remark_grows h
      exact gapF_fuel zs f g _ (by omega) (by omega)
    · rfl
theorem gapF_stop {zs : List Int} {i : Nat} (f : Nat) (h : slash2 zs i = false) : gapF zs f i = i := by
  cases f
  · rfl
  · simp only [gapF]
    rw [if_neg (by rw [h]; decide)]
theorem gapF_step {zs : List Int} {i : Nat} (h : slash2 zs i = true) : gapF zs zs.length i = gapF zs zs.length (runTo zs isBlank (runTo zs notLf i)) := by
  have h1 := remark_grows h
  have h2 := slash2_lt h
  obtain ⟨n, hn⟩ : ∃ n, zs.length = n + 1 := ⟨zs.length - 1, by omega⟩
  conv => lhs; rw [hn]; simp only [gapF]
  rw [if_pos h]
  exact gapF_fuel zs _ _ _ (by omega) (by omega)
theorem gapF_ge (zs : List Int) : ∀ f i, i ≤ gapF zs f i
  | 0, _ => Nat.le_refl _
  | f + 1, i => by
    simp only [gapF]
    split
    · rename_i h
      exact Nat.le_trans (Nat.le_trans (by omega) (remark_grows h)) (gapF_ge zs f _)
    · exact Nat.le_refl _
theorem gapF_le (zs : List Int) : ∀ f i, i ≤ zs.length → gapF zs f i ≤ zs.length
  | 0, _, h => h
  | f + 1, i, h => by
    simp only [gapF]
    split
    · exact gapF_le zs f _ (runTo_le _ _ _ (runTo_le _ _ _ h))
    · exact h
theorem gap_ge (zs : List Int) (i : Nat) : i ≤ gap zs i := Nat.le_trans (runTo_ge _ _ _) (gapF_ge _ _ _)
theorem gap_le (zs : List Int) (i : Nat) (h : i ≤ zs.length) : gap zs i ≤ zs.length := gapF_le _ _ _ (runTo_le _ _ _ h)

/-! ### numbers, quoted texts, a token -/
/-- Behind a minus, if one stands there. -/
def minusTo (zs : List Int) (i : Nat) : Nat := if stA zs (isC 45) i = true then i + 1 else i
/-- Is it one with a 0 ahead that may not be there? -/
def zeroAhead (zs : List Int) (i : Nat) : Bool := stA zs (isC 48) (minusTo zs i) && (stA zs (isC 45) i || decide (1 < runTo zs isDig (minusTo zs i) - minusTo zs i))
def numBad (zs : List Int) (i : Nat) : Bool :=
  decide (runTo zs isDig (minusTo zs i) - minusTo zs i = 0) || decide (20 < runTo zs isDig (minusTo zs i) - minusTo zs i) || stA zs isLet (runTo zs isDig (minusTo zs i)) || zeroAhead zs i
/-- The place behind the number at a place. -/
def numEnd (zs : List Int) (i : Nat) : Nat := runTo zs isDig (minusTo zs i)
def quoEnd (zs : List Int) (i : Nat) : Nat := runTo zs isPlain (i + 1)
/-- The bytes between two places. -/
def sub (zs : List Int) (i j : Nat) : List Int := (zs.drop i).take (j - i)
def quoBad (ok : List Int → Bool) (zs : List Int) (i : Nat) : Bool := !stA zs (isC 34) (quoEnd zs i) || !ok (sub zs (i + 1) (quoEnd zs i))
def begins (zs : List Int) (i : Nat) : Bool := stA zs isDig i || (stA zs (isC 45) i && stA zs isDig (i + 1))
/-- A token: its kind, its text, its place. -/
structure Tok where
  kind : Int
  text : List Int
  place : Nat
/-- The token at a place, and the place behind it. -/
def tok (ok : List Int → Bool) (sg : Int → Bool) (zs : List Int) (i : Nat) : Option (Tok × Nat) :=
  if i = zs.length then some (⟨0, [], i⟩, i)
  else if stA zs isLet i = true then some (⟨1, sub zs i (runTo zs (fun c => isLet c || isDig c) i), i⟩, runTo zs (fun c => isLet c || isDig c) i)
  else if begins zs i = true then (if numBad zs i = true then none else some (⟨2, sub zs i (numEnd zs i), i⟩, numEnd zs i))
  else if stA zs (isC 34) i = true then (if quoBad ok zs i = true then none else some (⟨3, sub zs (i + 1) (quoEnd zs i), i⟩, quoEnd zs i + 1))
  else if stA zs sg i = true then some (⟨4, sub zs i (i + 1), i⟩, i + 1)
  else none
section
variable {ok : List Int → Bool} {sg : Int → Bool} {zs : List Int} {i : Nat}
theorem tok_end (h : i = zs.length) : tok ok sg zs i = some (⟨0, [], i⟩, i) := by unfold tok; rw [if_pos h]
theorem tok_name (h : i < zs.length) (h1 : stA zs isLet i = true) : tok ok sg zs i = some (⟨1, sub zs i (runTo zs (fun c => isLet c || isDig c) i), i⟩, runTo zs (fun c => isLet c || isDig c) i) := by
  unfold tok
  rw [if_neg (by omega), if_pos h1]
theorem tok_num (h : i < zs.length) (h1 : stA zs isLet i = false) (h2 : begins zs i = true) : tok ok sg zs i = if numBad zs i = true then none else some (⟨2, sub zs i (numEnd zs i), i⟩, numEnd zs i) := by
  unfold tok
  rw [if_neg (by omega), if_neg (by rw [h1]; decide), if_pos h2]
theorem tok_quo (h : i < zs.length) (h1 : stA zs isLet i = false) (h2 : begins zs i = false) (h3 : stA zs (isC 34) i = true) : tok ok sg zs i = if quoBad ok zs i = true then none else some (⟨3, sub zs (i + 1) (quoEnd zs i), i⟩, quoEnd zs i + 1) := by
  unfold tok
  rw [if_neg (by omega), if_neg (by rw [h1]; decide), if_neg (by rw [h2]; decide), if_pos h3]
theorem tok_sign (h : i < zs.length) (h1 : stA zs isLet i = false) (h2 : begins zs i = false) (h3 : stA zs (isC 34) i = false) (h4 : stA zs sg i = true) : tok ok sg zs i = some (⟨4, sub zs i (i + 1), i⟩, i + 1) := by
  unfold tok
  rw [if_neg (by omega), if_neg (by rw [h1]; decide), if_neg (by rw [h2]; decide), if_neg (by rw [h3]; decide), if_pos h4]
theorem tok_none (h : i < zs.length) (h1 : stA zs isLet i = false) (h2 : begins zs i = false) (h3 : stA zs (isC 34) i = false) (h4 : stA zs sg i = false) : tok ok sg zs i = none := by
  unfold tok
  rw [if_neg (by omega), if_neg (by rw [h1]; decide), if_neg (by rw [h2]; decide), if_neg (by rw [h3]; decide), if_neg (by rw [h4]; decide)]
end
theorem tok_le {ok : List Int → Bool} {sg : Int → Bool} {zs : List Int} {i : Nat} {t : Tok} {e : Nat} (hi : i ≤ zs.length) (h : tok ok sg zs i = some (t, e)) : e ≤ zs.length := by
  have hm : minusTo zs i ≤ zs.length := by
    unfold minusTo
    split
    · rename_i h1
      have := stA_lt h1
      omega
    · exact hi
  unfold tok at h
  split at h
  · cases h; exact hi
  split at h
  · cases h; exact runTo_le _ _ _ hi
  split at h
  · split at h
    · cases h
    · cases h; exact runTo_le _ _ _ hm
  split at h
  · rename_i h1
    have := stA_lt h1
    split at h
    · cases h
    · rename_i h2
      cases h
      unfold quoBad at h2
      cases h3 : stA zs (isC 34) (quoEnd zs i)
      · rw [h3] at h2
        exact absurd rfl h2
      · exact stA_lt h3
  split at h
  · rename_i h1
    have := stA_lt h1
    cases h
    omega
  · cases h
/-- All of a text's tokens from a place on, behind those that there are; a fault's number and place. -/
def toksF (ok : List Int → Bool) (sg : Int → Bool) (zs : List Int) : Nat → Nat → List Tok → List Tok × Int × Nat
  | 0, i, l => (l, 0, i)
  | f + 1, i, l =>
    if l.length = 2048 then ([], 16, gap zs i) else
    match tok ok sg zs (gap zs i) with
    | none => ([], 10, gap zs i)
    | some (t, e) => if t.kind = 0 then (l ++ [t], 0, 0) else toksF ok sg zs f e (l ++ [t])
def toks (ok : List Int → Bool) (sg : Int → Bool) (zs : List Int) : List Tok × Int × Nat :=
  if 8192 < zs.length then ([], 16, 8192) else toksF ok sg zs 2049 0 []
end Go.Proofs.YtneadcbadnicfaaDoor
