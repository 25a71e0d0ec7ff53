/-
  Contracts of Go's library, laid at this translation: no walk, one application each. Conditions: those that each theorem names.
-/
import Derived.WalkKit
import Derived.Test.YtgbcchiheddfpaaGreatDoorRows
import Derived.Shelf.Small.Strs
import Derived.Shelf.Small.Wraps
namespace Go.Proofs.YtgbcchiheddfpaaGreatDoor
open Go.RowKit

def isBlank (c : Int) : Bool := decide (c = 32 ∨ c = 9 ∨ c = 10 ∨ c = 13)
def isDig (c : Int) : Bool := decide (48 ≤ c ∧ c ≤ 57)
def isLet (c : Int) : Bool := decide (c = 95 ∨ (97 ≤ c ∧ c ≤ 122) ∨ (65 ≤ c ∧ c ≤ 90))
def isPlain (c : Int) : Bool := decide (c ≠ 34 ∧ c ≠ 92 ∧ c ≠ 127 ∧ ¬ (0 ≤ c ∧ c ≤ 31))
def isC (x : Int) (c : Int) : Bool := decide (c = x)
def notLf (c : Int) : Bool := decide (c ≠ 10)
def stA (zs : List Int) (p : Int → Bool) (i : Nat) : Bool := decide (i < zs.length) && p (zs.getD i 0)
def runTo (zs : List Int) (p : Int → Bool) (i : Nat) : Nat := i + ((zs.drop i).takeWhile p).length

theorem stA_lt {zs : List Int} {p : Int → Bool} {i : Nat} (h : stA zs p i = true) : i < zs.length := by
  unfold stA at h
  simp at h
  exact h.1
theorem stA_p {zs : List Int} {p : Int → Bool} {i : Nat} (h : stA zs p i = true) : p (zs.getD i 0) = true := by
  unfold stA at h
  rw [Bool.and_eq_true] at h
  exact h.2
theorem stA_of {zs : List Int} {p : Int → Bool} {i : Nat} (h : i < zs.length) : stA zs p i = p (zs.getD i 0) := by
  unfold stA
  rw [decide_eq_true h, Bool.true_and]
theorem stA_ge {zs : List Int} {p : Int → Bool} {i : Nat} (h : zs.length ≤ i) : stA zs p i = false := by
  unfold stA
  rw [decide_eq_false (by omega), Bool.false_and]
theorem drop_cons {zs : List Int} {i : Nat} (h : i < zs.length) : zs.drop i = zs.getD i 0 :: zs.drop (i + 1) := by
  rw [List.drop_eq_getElem_cons h]
  simp [List.getD, h]
theorem runTo_stop {zs : List Int} {p : Int → Bool} {i : Nat} (h : stA zs p i = false) : runTo zs p i = i := by
  unfold runTo
  by_cases hi : i < zs.length
  · rw [stA_of hi] at h
    rw [drop_cons hi, List.takeWhile_cons, h]
    simp
  · rw [List.drop_eq_nil_of_le (by omega)]
    simp
theorem runTo_step {zs : List Int} {p : Int → Bool} {i : Nat} (h : stA zs p i = true) : runTo zs p i = runTo zs p (i + 1) := by
  unfold runTo
  rw [drop_cons (stA_lt h), List.takeWhile_cons, stA_p h]
  simp
  omega
theorem runTo_ge (zs : List Int) (p : Int → Bool) (i : Nat) : i ≤ runTo zs p i := by unfold runTo; omega
theorem length_takeWhile_le' (p : Int → Bool) : ∀ l : List Int, (l.takeWhile p).length ≤ l.length
  | [] => by simp
  | a :: r => by
    have := length_takeWhile_le' p r
    rw [List.takeWhile_cons]
    split <;> simp <;> omega
theorem runTo_le (zs : List Int) (p : Int → Bool) (i : Nat) (h : i ≤ zs.length) : runTo zs p i ≤ zs.length := by
  unfold runTo
  have := length_takeWhile_le' p (zs.drop i)
  rw [List.length_drop] at this
  omega
theorem runTo_rec (zs : List Int) (p : Int → Bool) (Q : Nat → Prop) (hend : ∀ i, stA zs p i = false → Q i) (hstep : ∀ i, stA zs p i = true → Q (i + 1) → Q i) : ∀ i, Q i := by
  have h : ∀ n i, zs.length ≤ n + i → Q i := by
    intro n
    induction n with
    | zero => intro i hi; exact hend i (stA_ge (by omega))
    | succ n ih =>
      intro i hi
      cases hs : stA zs p i
      · exact hend i hs
      · exact hstep i hs (ih (i + 1) (by omega))
  intro i
  exact h zs.length i (by omega)
theorem runTo_all (zs : List Int) (p : Int → Bool) : ∀ i, ∀ j, i ≤ j → j < runTo zs p i → stA zs p j = true :=
  runTo_rec zs p _ (fun i h j h1 h2 => by rw [runTo_stop h] at h2; omega) (fun i h ih j h1 h2 => by
    rw [runTo_step h] at h2
    rcases Nat.lt_or_ge i j with hj | hj
    · exact ih j (by omega) h2
    · obtain rfl : i = j := by omega
      exact h)
theorem runTo_unique {zs : List Int} {p : Int → Bool} {i k : Nat} (h1 : i ≤ k) (h2 : ∀ j, i ≤ j → j < k → stA zs p j = true) (h3 : stA zs p k = false) : runTo zs p i = k := by
  have h : ∀ n i, i + n = k → (∀ j, i ≤ j → j < k → stA zs p j = true) → runTo zs p i = k := by
    intro n
    induction n with
    | zero => intro i hi _; obtain rfl : i = k := by omega
              exact runTo_stop h3
    | succ n ih =>
      intro i hi hj
      rw [runTo_step (hj i (Nat.le_refl _) (by omega))]
      exact ih (i + 1) (by omega) (fun j a b => hj j (by omega) b)
  exact h (k - i) i (by omega) h2
/-! ### blanks and remarks -/
def slash2 (zs : List Int) (i : Nat) : Bool := stA zs (isC 47) i && stA zs (isC 47) (i + 1)
def gapF (zs : List Int) : Nat → Nat → Nat
  | 0, i => i
  | f + 1, i => if slash2 zs i = true then gapF zs f (runTo zs isBlank (runTo zs notLf i)) else i
def gap (zs : List Int) (i : Nat) : Nat := gapF zs zs.length (runTo zs isBlank i)
theorem slash2_lt {zs : List Int} {i : Nat} (h : slash2 zs i = true) : i + 1 < zs.length := by
  unfold slash2 at h
  rw [Bool.and_eq_true] at h
  exact stA_lt h.2
theorem slash2_run {zs : List Int} {i : Nat} (h : slash2 zs i = true) : i + 2 ≤ runTo zs notLf i := by
  unfold slash2 at h
  rw [Bool.and_eq_true] at h
  have e : ∀ j, stA zs (isC 47) j = true → stA zs notLf j = true := fun j hj => by
    rw [stA_of (stA_lt hj)]
    have := of_decide_eq_true (show decide (zs.getD j 0 = 47) = true from stA_p hj)
    unfold notLf
    exact decide_eq_true (by omega)
  rw [runTo_step (e _ h.1), runTo_step (e _ h.2)]
  exact runTo_ge _ _ _
theorem remark_grows {zs : List Int} {i : Nat} (h : slash2 zs i = true) : i + 2 ≤ runTo zs isBlank (runTo zs notLf i) :=
  Nat.le_trans (slash2_run h) (runTo_ge _ _ _)
theorem gapF_fuel (zs : List Int) : ∀ f g i, zs.length ≤ f + i → zs.length ≤ g + i → gapF zs f i = gapF zs g i
  | 0, 0, _, _, _ => rfl
  | 0, g + 1, i, hf, _ => by
    simp only [gapF]
    rw [if_neg (fun h => by have := slash2_lt h; omega)]
  | f + 1, 0, i, _, hg => by
    simp only [gapF]
    rw [if_neg (fun h => by have := slash2_lt h; omega)]
  | f + 1, g + 1, i, hf, hg => by
    simp only [gapF]
    split
    · rename_i h
      have := remark_grows h
      exact gapF_fuel zs f g _ (by omega) (by omega)
    · rfl
theorem gapF_stop {zs : List Int} {i : Nat} (f : Nat) (h : slash2 zs i = false) : gapF zs f i = i := by
  cases f
  · rfl
  · simp only [gapF]
    rw [if_neg (by rw [h]; decide)]
theorem gapF_step {zs : List Int} {i : Nat} (h : slash2 zs i = true) : gapF zs zs.length i = gapF zs zs.length (runTo zs isBlank (runTo zs notLf i)) := by
  have h1 := remark_grows h
  have h2 := slash2_lt h
  obtain ⟨n, hn⟩ : ∃ n, zs.length = n + 1 := ⟨zs.length - 1, by omega⟩
  conv => lhs; rw [hn]; simp only [gapF]
  rw [if_pos h]
  exact gapF_fuel zs _ _ _ (by omega) (by omega)
theorem gapF_le (zs : List Int) : ∀ f i, i ≤ zs.length → gapF zs f i ≤ zs.length
  | 0, _, h => h
  | f + 1, i, h => by
    simp only [gapF]
    split
    · exact gapF_le zs f _ (runTo_le _ _ _ (runTo_le _ _ _ h))
    · exact h
theorem gap_le (zs : List Int) (i : Nat) (h : i ≤ zs.length) : gap zs i ≤ zs.length := gapF_le _ _ _ (runTo_le _ _ _ h)

/-! ### numbers, quoted texts, a token -/
def minusTo (zs : List Int) (i : Nat) : Nat := if stA zs (isC 45) i = true then i + 1 else i
def zeroAhead (zs : List Int) (i : Nat) : Bool := stA zs (isC 48) (minusTo zs i) && (stA zs (isC 45) i || decide (1 < runTo zs isDig (minusTo zs i) - minusTo zs i))
def numBad (zs : List Int) (i : Nat) : Bool :=
  decide (runTo zs isDig (minusTo zs i) - minusTo zs i = 0) || decide (20 < runTo zs isDig (minusTo zs i) - minusTo zs i) || stA zs isLet (runTo zs isDig (minusTo zs i)) || zeroAhead zs i
def numEnd (zs : List Int) (i : Nat) : Nat := runTo zs isDig (minusTo zs i)
def quoEnd (zs : List Int) (i : Nat) : Nat := runTo zs isPlain (i + 1)
def sub (zs : List Int) (i j : Nat) : List Int := (zs.drop i).take (j - i)
def quoBad (ok : List Int → Bool) (zs : List Int) (i : Nat) : Bool := !stA zs (isC 34) (quoEnd zs i) || !ok (sub zs (i + 1) (quoEnd zs i))
def begins (zs : List Int) (i : Nat) : Bool := stA zs isDig i || (stA zs (isC 45) i && stA zs isDig (i + 1))
structure Tok where
  kind : Int
  text : List Int
  place : Nat
def tok (ok : List Int → Bool) (sg : Int → Bool) (zs : List Int) (i : Nat) : Option (Tok × Nat) :=
  if i = zs.length then some (⟨0, [], i⟩, i)
  else if stA zs isLet i = true then some (⟨1, sub zs i (runTo zs (fun c => isLet c || isDig c) i), i⟩, runTo zs (fun c => isLet c || isDig c) i)
  else if begins zs i = true then (if numBad zs i = true then none else some (⟨2, sub zs i (numEnd zs i), i⟩, numEnd zs i))
  else if stA zs (isC 34) i = true then (if quoBad ok zs i = true then none else some (⟨3, sub zs (i + 1) (quoEnd zs i), i⟩, quoEnd zs i + 1))
  else if stA zs sg i = true then some (⟨4, sub zs i (i + 1), i⟩, i + 1)
  else none
section
variable {ok : List Int → Bool} {sg : Int → Bool} {zs : List Int} {i : Nat}
theorem tok_end (h : i = zs.length) : tok ok sg zs i = some (⟨0, [], i⟩, i) := by unfold tok; rw [if_pos h]
theorem tok_name (h : i < zs.length) (h1 : stA zs isLet i = true) : tok ok sg zs i = some (⟨1, sub zs i (runTo zs (fun c => isLet c || isDig c) i), i⟩, runTo zs (fun c => isLet c || isDig c) i) := by
  unfold tok
  rw [if_neg (by omega), if_pos h1]
theorem tok_num (h : i < zs.length) (h1 : stA zs isLet i = false) (h2 : begins zs i = true) : tok ok sg zs i = if numBad zs i = true then none else some (⟨2, sub zs i (numEnd zs i), i⟩, numEnd zs i) := by
  unfold tok
  rw [if_neg (by omega), if_neg (by rw [h1]; decide), if_pos h2]
theorem tok_quo (h : i < zs.length) (h1 : stA zs isLet i = false) (h2 : begins zs i = false) (h3 : stA zs (isC 34) i = true) : tok ok sg zs i = if quoBad ok zs i = true then none else some (⟨3, sub zs (i + 1) (quoEnd zs i), i⟩, quoEnd zs i + 1) := by
  unfold tok
  rw [if_neg (by omega), if_neg (by rw [h1]; decide), if_neg (by rw [h2]; decide), if_pos h3]
theorem tok_sign (h : i < zs.length) (h1 : stA zs isLet i = false) (h2 : begins zs i = false) (h3 : stA zs (isC 34) i = false) (h4 : stA zs sg i = true) : tok ok sg zs i = some (⟨4, sub zs i (i + 1), i⟩, i + 1) := by
  unfold tok
  rw [if_neg (by omega), if_neg (by rw [h1]; decide), if_neg (by rw [h2]; decide), if_neg (by rw [h3]; decide), if_pos h4]
theorem tok_none (h : i < zs.length) (h1 : stA zs isLet i = false) (h2 : begins zs i = false) (h3 : stA zs (isC 34) i = false) (h4 : stA zs sg i = false) : tok ok sg zs i = none := by
  unfold tok
  rw [if_neg (by omega), if_neg (by rw [h1]; decide), if_neg (by rw [h2]; decide), if_neg (by rw [h3]; decide), if_neg (by rw [h4]; decide)]
end
theorem tok_le {ok : List Int → Bool} {sg : Int → Bool} {zs : List Int} {i : Nat} {t : Tok} {e : Nat} (hi : i ≤ zs.length) (h : tok ok sg zs i = some (t, e)) : e ≤ zs.length := by
  have hm : minusTo zs i ≤ zs.length := by
    unfold minusTo
    split
    · rename_i h1
      have := stA_lt h1
      omega
    · exact hi
  unfold tok at h
  split at h
  · cases h; exact hi
  split at h
  · cases h; exact runTo_le _ _ _ hi
  split at h
  · split at h
    · cases h
    · cases h; exact runTo_le _ _ _ hm
  split at h
  · rename_i h1
    have := stA_lt h1
    split at h
    · cases h
    · rename_i h2
      cases h
      unfold quoBad at h2
      cases h3 : stA zs (isC 34) (quoEnd zs i)
      · rw [h3] at h2
        exact absurd rfl h2
      · exact stA_lt h3
  split at h
  · rename_i h1
    have := stA_lt h1
    cases h
    omega
  · cases h
def toksF (ok : List Int → Bool) (sg : Int → Bool) (zs : List Int) : Nat → Nat → List Tok → List Tok × Int × Nat
  | 0, i, l => (l, 0, i)
  | f + 1, i, l =>
    if l.length = 2048 then ([], 16, gap zs i) else
    match tok ok sg zs (gap zs i) with
    | none => ([], 10, gap zs i)
    | some (t, e) => if t.kind = 0 then (l ++ [t], 0, 0) else toksF ok sg zs f e (l ++ [t])
def toks (ok : List Int → Bool) (sg : Int → Bool) (zs : List Int) : List Tok × Int × Nat :=
  if 8192 < zs.length then ([], 16, 8192) else toksF ok sg zs 2049 0 []
end Go.Proofs.YtgbcchiheddfpaaGreatDoor
namespace Go.Proofs.YtgbcchiheddfpaaGreatDoor
open Go.Proofs Go.Shelf
def Tryz.lays137_ren : Go.Shelf.Ren := ⟨fun | 137 => 202 | 217 => 232 | 266 => 245 | n => n, fun | 9 => 9 | 5 => 5 | 3 => 3 | n => n, fun | n => n⟩
theorem Tryz.lays137 : Go.Proofs.Lays.n137 Tryz.prog Tryz.lays137_ren := {
  mixed := by kernel_rfl
  f137 := Tryz.func202.trans (congrArg some (by kernel_rfl))
  f217 := Tryz.func232.trans (congrArg some (by kernel_rfl))
  f266 := Tryz.func245.trans (congrArg some (by kernel_rfl))
  t3 := Tryz.underlying3
  a3 := Tryz.isAgg3
  z3 := Tryz.sizeOf3
  v3 := Tryz.zeroValue3
  t5 := Tryz.underlying5
  a5 := Tryz.isAgg5
  z5 := Tryz.sizeOf5
  v5 := Tryz.zeroValue5
  t9 := Tryz.underlying9
  a9 := Tryz.isAgg9
  z9 := Tryz.sizeOf9
  v9 := Tryz.zeroValue9 }
open Go.RowKit in
theorem Tryz.strings_IndexByte (s : ByteArray) (c : Int) (w : World) :
    Calls Tryz.prog 202 #[.string s, .int .u8 c] w fun e w' => e = .returned (.int .i64 (Lib.indexByte s.data.toList c.toNat.toUInt8)) ∧ w' = w := Any.strings_IndexByte Tryz.lays137 s c w
end Go.Proofs.YtgbcchiheddfpaaGreatDoor
namespace Go.Proofs.YtgbcchiheddfpaaGreatDoor
open Go.Proofs Go.Shelf
def Tryz.lays103_ren : Go.Shelf.Ren := ⟨fun | 103 => 251 | 210 => 254 | 206 => 257 | n => n, fun | 9 => 9 | 4 => 4 | 24 => 370 | 3 => 3 | n => n, fun | n => n⟩
theorem Tryz.lays103 : Go.Proofs.Lays.n103 Tryz.prog Tryz.lays103_ren := {
  mixed := by kernel_rfl
  f103 := Tryz.func251.trans (congrArg some (by kernel_rfl))
  f206 := Tryz.func257.trans (congrArg some (by kernel_rfl))
  f210 := Tryz.func254.trans (congrArg some (by kernel_rfl))
  t3 := Tryz.underlying3
  a3 := Tryz.isAgg3
  z3 := Tryz.sizeOf3
  v3 := Tryz.zeroValue3
  t4 := Tryz.underlying4
  a4 := Tryz.isAgg4
  z4 := Tryz.sizeOf4
  v4 := Tryz.zeroValue4
  t9 := Tryz.underlying9
  a9 := Tryz.isAgg9
  z9 := Tryz.sizeOf9
  v9 := Tryz.zeroValue9
  t24 := Tryz.underlying370
  a24 := Tryz.isAgg370
  z24 := Tryz.sizeOf370
  v24 := Tryz.zeroValue370 }
open Go.RowKit in
theorem Tryz.strings_CutPrefix (s p : ByteArray) (w : World) :
    Calls Tryz.prog 251 #[.string s, .string p] w fun e w' => e = .returned (.tuple #[.string ⟨(Lib.trimPrefix s.data.toList p.data.toList).toArray⟩, .bool (Lib.hasPrefix s.data.toList p.data.toList)]) ∧ w' = w := Any.strings_CutPrefix Tryz.lays103 s p w
end Go.Proofs.YtgbcchiheddfpaaGreatDoor
