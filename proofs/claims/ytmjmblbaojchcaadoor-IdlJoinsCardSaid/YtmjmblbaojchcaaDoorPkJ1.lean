/-
  Plain facts on numbers of bytes, the lowest first: no run of the program stands in this text. Conditions: those that each theorem names.
  What the walks of this seat share: the library's texts that they import. No theorem stands here.
  Plain facts on bytes as a text's tokens: where runs of a kind end, blanks and remarks, numbers, quoted texts, the token at a place, and all of a text's tokens. No run of the program stands in this text. Conditions: those that each theorem names.
  Slices of tokens of the call's own: how they lie in memory, cell by cell; what keeps them; small facts on numbers. Conditions: those that each theorem names.
  'Exc R B w w'': below block B the world w' is as w was, but for the block R; what keeps that. Conditions: those that each theorem names.
-/
import Derived.WalkKit
import Derived.Laws.BitsLemmas
import Derived.Test.YtmjmblbaojchcaaDoorRows
import Derived.ProofKit
import Derived.OpenShut
import Derived.ShutString
import Derived.ChangeOld
import Derived.Below
import Derived.WalkLawsBesides
import Derived.WalkSpells
import Derived.Lib.Hide
import Derived.Outline
import Derived.Handy
import Derived.Lib.ConvBytes
import Derived.Lib.AtoiErrMem
import Derived.Laws.EntriesVeiled
import Derived.Shelf.Abstract
namespace Go.Proofs.YtmjmblbaojchcaaDoor
open Go.RowKit
/-- The number of the first k bytes, the lowest first. -/
def leNum (f : Nat → Int) : Nat → Int
  | 0 => 0
  | k + 1 => leNum f k + f k * 2 ^ (8 * k)
theorem leNum_bd (f : Nat → Int) (n : Nat) (hf : ∀ j, j < n → 0 ≤ f j ∧ f j ≤ 255) : ∀ k, k ≤ n → 0 ≤ leNum f k ∧ leNum f k < 2 ^ (8 * k)
  | 0, _ => by simp [leNum]
  | k + 1, h => by
    have ih := leNum_bd f n hf k (by omega)
    obtain ⟨f0, f1⟩ := hf k (by omega)
    have hp : (0 : Int) < 2 ^ (8 * k) := Int.pow_pos (by decide)
    have e : (2 : Int) ^ (8 * (k + 1)) = 256 * 2 ^ (8 * k) := by
      rw [show 8 * (k + 1) = 8 * k + 8 from by omega, Int.pow_add]
      omega
    have h1 : 0 ≤ f k * 2 ^ (8 * k) := Int.mul_nonneg f0 (by omega)
    have h2 : f k * 2 ^ (8 * k) ≤ 255 * 2 ^ (8 * k) := Int.mul_le_mul_of_nonneg_right f1 (by omega)
    rw [e]
    simp only [leNum]
    generalize f k * 2 ^ (8 * k) = m at *
    generalize (2 : Int) ^ (8 * k) = P at *
    omega
theorem leNum_congr (f g : Nat → Int) : ∀ k, (∀ j, j < k → f j = g j) → leNum f k = leNum g k
  | 0, _ => rfl
  | k + 1, h => by
    simp only [leNum]
    rw [leNum_congr f g k (fun j hj => h j (by omega)), h k (by omega)]
/-- The number of n bytes from a place on. -/
def leAt (zs : List Int) (a n : Nat) : Int := leNum (fun j => zs.getD (a + j) 0) n
theorem pow_le56 (k : Nat) (hk : k < 8) : (2 : Int) ^ (8 * k) ≤ 72057594037927936 := by
  have : (2 : Nat) ^ (8 * k) ≤ 2 ^ 56 := Nat.pow_le_pow_right (by decide) (by omega)
  have h2 : ((2 ^ (8 * k) : Nat) : Int) ≤ ((2 ^ 56 : Nat) : Int) := Int.ofNat_le.2 this
  simpa using h2
theorem or_byte (k : Nat) (hk : k < 8) (y z : Int) (y0 : 0 ≤ y) (y1 : y < 2 ^ (8 * k)) (z0 : 0 ≤ z) (z1 : z ≤ 255) :
    bits BinOp.or .u64 y (IntKind.u64.wrap (IntKind.u64.wrap z * 2 ^ (8 * k))) = y + z * 2 ^ (8 * k) := by
  rw [IntWalk.u64_in z ⟨z0, by omega⟩]
  have hp : (0 : Int) < 2 ^ (8 * k) := Int.pow_pos (by decide)
  have hP := pow_le56 k hk
  have h1 : 0 ≤ z * 2 ^ (8 * k) := Int.mul_nonneg z0 (by omega)
  have h2 : z * 2 ^ (8 * k) ≤ 255 * 2 ^ (8 * k) := Int.mul_le_mul_of_nonneg_right z1 (by omega)
  have hm : (z * 2 ^ (8 * k)) % 2 ^ (8 * k) = 0 := Int.mul_emod_left z _
  have hc : bits BinOp.or .u64 y (z * 2 ^ (8 * k)) = bits BinOp.or .u64 (z * 2 ^ (8 * k)) y := by simp only [bits, BitVec.or_comm]
  rw [IntWalk.u64_in _ ⟨h1, by omega⟩, hc, bits_join .u64 64 (by decide) (fun n h0 h1 => IntWalk.u64_in n ⟨h0, by omega⟩) (8 * k) _ _ h1 hm (by omega) y0 y1 (by omega)]
  omega
theorem add_byte (k : Nat) (hk : k < 8) (y z : Int) (y0 : 0 ≤ y) (y1 : y < 2 ^ (8 * k)) (z0 : 0 ≤ z) (z1 : z ≤ 255) :
    IntKind.u64.wrap (y + IntKind.u64.wrap (IntKind.u64.wrap z * 2 ^ (8 * k))) = y + z * 2 ^ (8 * k) := by
  rw [IntWalk.u64_in z ⟨z0, by omega⟩]
  have hp : (0 : Int) < 2 ^ (8 * k) := Int.pow_pos (by decide)
  have hP := pow_le56 k hk
  have h1 : 0 ≤ z * 2 ^ (8 * k) := Int.mul_nonneg z0 (by omega)
  have h2 : z * 2 ^ (8 * k) ≤ 255 * 2 ^ (8 * k) := Int.mul_le_mul_of_nonneg_right z1 (by omega)
  rw [IntWalk.u64_in _ ⟨h1, by omega⟩, IntWalk.u64_in _ ⟨by omega, by omega⟩]
theorem ret_int {k : IntKind} {a b : Int} (h : a = b) : Ending.returned (.int k a) = .returned (.int k b) := by rw [h]
theorem ret_bool {a b : Bool} (h : a = b) : Ending.returned (.bool a) = .returned (.bool b) := by rw [h]
theorem ret_int_bool {k : IntKind} {a b : Int} {c : Bool} (h : a = b) : Ending.returned (.tuple #[.int k a, .bool c]) = .returned (.tuple #[.int k b, .bool c]) := by rw [h]
/-- The size in bytes of a kind's numbers, by the kind's number. -/
def kSize (n : Int) : Int :=
  if n = 1 ∨ n = 2 ∨ n = 6 ∨ n = 10 then 1 else if n = 3 ∨ n = 7 then 2 else if n = 4 ∨ n = 8 then 4 else if n = 5 ∨ n = 9 then 8 else 0
theorem kSize_else (n : Int) (h : n < 1 ∨ 10 < n) : kSize n = 0 := by
  unfold kSize
  rw [if_neg (by omega), if_neg (by omega), if_neg (by omega), if_neg (by omega)]
def kSign (n : Int) : Bool := decide (2 ≤ n ∧ n ≤ 5)
/-- The lowest bytes of a number with their sign, in 64 bits. -/
def sgn (m n : Int) : Int := if n % (2 * m) < m then n % (2 * m) else n % (2 * m) + (18446744073709551616 - 2 * m)
def sgnOf (n s : Int) : Int := if s = 1 then sgn 128 n else if s = 2 then sgn 32768 n else if s = 4 then sgn 2147483648 n else n
theorem sgnOf_else (n s : Int) (h1 : ¬ s = 1) (h2 : ¬ s = 2) (h4 : ¬ s = 4) : sgnOf n s = n := by
  unfold sgnOf
  rw [if_neg h1, if_neg h2, if_neg h4]
theorem and_8 (n : Int) (h0 : 0 ≤ n) (h1 : n ≤ 18446744073709551615) : bits BinOp.and .u64 n 255 = n % 256 :=
  bits_mask .u64 64 (by decide) (fun n h0 h1 => IntWalk.u64_in n ⟨h0, by omega⟩) 8 (by decide) n h0 (by omega)
theorem and_16 (n : Int) (h0 : 0 ≤ n) (h1 : n ≤ 18446744073709551615) : bits BinOp.and .u64 n 65535 = n % 65536 :=
  bits_mask .u64 64 (by decide) (fun n h0 h1 => IntWalk.u64_in n ⟨h0, by omega⟩) 16 (by decide) n h0 (by omega)
theorem and_32 (n : Int) (h0 : 0 ≤ n) (h1 : n ≤ 18446744073709551615) : bits BinOp.and .u64 n 4294967295 = n % 4294967296 :=
  bits_mask .u64 64 (by decide) (fun n h0 h1 => IntWalk.u64_in n ⟨h0, by omega⟩) 32 (by decide) n h0 (by omega)
theorem or_comm64 (x y : Int) : bits BinOp.or .u64 x y = bits BinOp.or .u64 y x := by simp only [bits, BitVec.or_comm]
theorem or_8 (y : Int) (h0 : 0 ≤ y) (h1 : y < 256) : bits BinOp.or .u64 y 18446744073709551360 = y + 18446744073709551360 := by
  rw [or_comm64, bits_join .u64 64 (by decide) (fun n h0 h1 => IntWalk.u64_in n ⟨h0, by omega⟩) 8 _ _ (by decide) (by decide) (by decide) h0 h1 (by omega)]
  omega
theorem or_16 (y : Int) (h0 : 0 ≤ y) (h1 : y < 65536) : bits BinOp.or .u64 y 18446744073709486080 = y + 18446744073709486080 := by
  rw [or_comm64, bits_join .u64 64 (by decide) (fun n h0 h1 => IntWalk.u64_in n ⟨h0, by omega⟩) 16 _ _ (by decide) (by decide) (by decide) h0 h1 (by omega)]
  omega
theorem or_32 (y : Int) (h0 : 0 ≤ y) (h1 : y < 4294967296) : bits BinOp.or .u64 y 18446744069414584320 = y + 18446744069414584320 := by
  rw [or_comm64, bits_join .u64 64 (by decide) (fun n h0 h1 => IntWalk.u64_in n ⟨h0, by omega⟩) 32 _ _ (by decide) (by decide) (by decide) h0 h1 (by omega)]
  omega
theorem sgnOf_1 (n : Int) : sgnOf n 1 = if n % 256 < 128 then n % 256 else n % 256 + 18446744073709551360 := rfl
theorem sgnOf_2 (n : Int) : sgnOf n 2 = if n % 65536 < 32768 then n % 65536 else n % 65536 + 18446744073709486080 := rfl
theorem sgnOf_4 (n : Int) : sgnOf n 4 = if n % 4294967296 < 2147483648 then n % 4294967296 else n % 4294967296 + 18446744069414584320 := rfl
end Go.Proofs.YtmjmblbaojchcaaDoor
namespace Go.Proofs.YtmjmblbaojchcaaDoor
end Go.Proofs.YtmjmblbaojchcaaDoor
namespace Go.Proofs.YtmjmblbaojchcaaDoor
open Go.RowKit

def isBlank (c : Int) : Bool := decide (c = 32 ∨ c = 9 ∨ c = 10 ∨ c = 13)
def isDig (c : Int) : Bool := decide (48 ≤ c ∧ c ≤ 57)
def isLet (c : Int) : Bool := decide (c = 95 ∨ (97 ≤ c ∧ c ≤ 122) ∨ (65 ≤ c ∧ c ≤ 90))
def isPlain (c : Int) : Bool := decide (c ≠ 34 ∧ c ≠ 92 ∧ c ≠ 127 ∧ ¬ (0 ≤ c ∧ c ≤ 31))
def isC (x : Int) (c : Int) : Bool := decide (c = x)
def notLf (c : Int) : Bool := decide (c ≠ 10)
/-- Does a byte of a kind stand at a place? -/
def stA (zs : List Int) (p : Int → Bool) (i : Nat) : Bool := decide (i < zs.length) && p (zs.getD i 0)
/-- The place behind all bytes of a kind that stand from a place on. -/
def runTo (zs : List Int) (p : Int → Bool) (i : Nat) : Nat := i + ((zs.drop i).takeWhile p).length

theorem stA_lt {zs : List Int} {p : Int → Bool} {i : Nat} (h : stA zs p i = true) : i < zs.length := by
  unfold stA at h
  simp at h
  exact h.1
theorem stA_p {zs : List Int} {p : Int → Bool} {i : Nat} (h : stA zs p i = true) : p (zs.getD i 0) = true := by
  unfold stA at h
  rw [Bool.and_eq_true] at h
  exact h.2
theorem stA_of {zs : List Int} {p : Int → Bool} {i : Nat} (h : i < zs.length) : stA zs p i = p (zs.getD i 0) := by
  unfold stA
  rw [decide_eq_true h, Bool.true_and]
theorem stA_ge {zs : List Int} {p : Int → Bool} {i : Nat} (h : zs.length ≤ i) : stA zs p i = false := by
  unfold stA
  rw [decide_eq_false (by omega), Bool.false_and]
theorem drop_cons {zs : List Int} {i : Nat} (h : i < zs.length) : zs.drop i = zs.getD i 0 :: zs.drop (i + 1) := by
  rw [List.drop_eq_getElem_cons h]
  simp [List.getD, h]
theorem runTo_stop {zs : List Int} {p : Int → Bool} {i : Nat} (h : stA zs p i = false) : runTo zs p i = i := by
  unfold runTo
  by_cases hi : i < zs.length
  · rw [stA_of hi] at h
    rw [drop_cons hi, List.takeWhile_cons, h]
    simp
  · rw [List.drop_eq_nil_of_le (by omega)]
    simp
theorem runTo_step {zs : List Int} {p : Int → Bool} {i : Nat} (h : stA zs p i = true) : runTo zs p i = runTo zs p (i + 1) := by
  unfold runTo
  rw [drop_cons (stA_lt h), List.takeWhile_cons, stA_p h]
  simp
  omega
theorem runTo_ge (zs : List Int) (p : Int → Bool) (i : Nat) : i ≤ runTo zs p i := by unfold runTo; omega
theorem length_takeWhile_le' (p : Int → Bool) : ∀ l : List Int, (l.takeWhile p).length ≤ l.length
  | [] => by simp
  | a :: r => by
    have := length_takeWhile_le' p r
    rw [List.takeWhile_cons]
    split <;> simp <;> omega
theorem runTo_le (zs : List Int) (p : Int → Bool) (i : Nat) (h : i ≤ zs.length) : runTo zs p i ≤ zs.length := by
  unfold runTo
  have := length_takeWhile_le' p (zs.drop i)
  rw [List.length_drop] at this
  omega
/-- By induction on what is left. -/
theorem runTo_rec (zs : List Int) (p : Int → Bool) (Q : Nat → Prop) (hend : ∀ i, stA zs p i = false → Q i) (hstep : ∀ i, stA zs p i = true → Q (i + 1) → Q i) : ∀ i, Q i := by
  have h : ∀ n i, zs.length ≤ n + i → Q i := by
    intro n
    induction n with
    | zero => intro i hi; exact hend i (stA_ge (by omega))
    | succ n ih =>
      intro i hi
      cases hs : stA zs p i
      · exact hend i hs
      · exact hstep i hs (ih (i + 1) (by omega))
  intro i
  exact h zs.length i (by omega)
theorem runTo_end (zs : List Int) (p : Int → Bool) : ∀ i, stA zs p (runTo zs p i) = false :=
  runTo_rec zs p _ (fun i h => by rw [runTo_stop h]; exact h) (fun i h ih => by rw [runTo_step h]; exact ih)
theorem runTo_all (zs : List Int) (p : Int → Bool) : ∀ i, ∀ j, i ≤ j → j < runTo zs p i → stA zs p j = true :=
  runTo_rec zs p _ (fun i h j h1 h2 => by rw [runTo_stop h] at h2; omega) (fun i h ih j h1 h2 => by
    rw [runTo_step h] at h2
    rcases Nat.lt_or_ge i j with hj | hj
    · exact ih j (by omega) h2
    · obtain rfl : i = j := by omega
      exact h)
theorem runTo_unique {zs : List Int} {p : Int → Bool} {i k : Nat} (h1 : i ≤ k) (h2 : ∀ j, i ≤ j → j < k → stA zs p j = true) (h3 : stA zs p k = false) : runTo zs p i = k := by
  have h : ∀ n i, i + n = k → (∀ j, i ≤ j → j < k → stA zs p j = true) → runTo zs p i = k := by
    intro n
    induction n with
    | zero => intro i hi _; obtain rfl : i = k := by omega
              exact runTo_stop h3
    | succ n ih =>
      intro i hi hj
      rw [runTo_step (hj i (Nat.le_refl _) (by omega))]
      exact ih (i + 1) (by omega) (fun j a b => hj j (by omega) b)
  exact h (k - i) i (by omega) h2
theorem runTo_idem (zs : List Int) (p : Int → Bool) (i j : Nat) (h1 : i ≤ j) (h2 : j ≤ runTo zs p i) : runTo zs p j = runTo zs p i :=
  runTo_unique h2 (fun k a b => runTo_all zs p i k (by omega) b) (runTo_end zs p i)
theorem runTo_congr {zs : List Int} {p q : Int → Bool} (i : Nat) (h : ∀ j, i ≤ j → stA zs p j = stA zs q j) : runTo zs p i = runTo zs q i :=
  runTo_unique (runTo_ge _ _ _) (fun j a b => by rw [h j a]; exact runTo_all zs q i j a b) (by rw [h _ (runTo_ge _ _ _)]; exact runTo_end zs q i)

/-! ### blanks and remarks -/
/-- Do two slashes stand at a place? -/
def slash2 (zs : List Int) (i : Nat) : Bool := stA zs (isC 47) i && stA zs (isC 47) (i + 1)
def gapF (zs : List Int) : Nat → Nat → Nat
  | 0, i => i
  | f + 1, i => if slash2 zs i = true then gapF zs f (runTo zs isBlank (runTo zs notLf i)) else i
/-- The place behind the blanks and remarks that stand from a place on. -/
def gap (zs : List Int) (i : Nat) : Nat := gapF zs zs.length (runTo zs isBlank i)
theorem slash2_lt {zs : List Int} {i : Nat} (h : slash2 zs i = true) : i + 1 < zs.length := by
  unfold slash2 at h
  rw [Bool.and_eq_true] at h
  exact stA_lt h.2
theorem slash2_run {zs : List Int} {i : Nat} (h : slash2 zs i = true) : i + 2 ≤ runTo zs notLf i := by
  unfold slash2 at h
  rw [Bool.and_eq_true] at h
  have e : ∀ j, stA zs (isC 47) j = true → stA zs notLf j = true := fun j hj => by
    rw [stA_of (stA_lt hj)]
    have := of_decide_eq_true (show decide (zs.getD j 0 = 47) = true from stA_p hj)
    unfold notLf
    exact decide_eq_true (by omega)
  rw [runTo_step (e _ h.1), runTo_step (e _ h.2)]
  exact runTo_ge _ _ _
theorem remark_grows {zs : List Int} {i : Nat} (h : slash2 zs i = true) : i + 2 ≤ runTo zs isBlank (runTo zs notLf i) :=
  Nat.le_trans (slash2_run h) (runTo_ge _ _ _)
theorem gapF_fuel (zs : List Int) : ∀ f g i, zs.length ≤ f + i → zs.length ≤ g + i → gapF zs f i = gapF zs g i
  | 0, 0, _, _, _ => rfl
  | 0, g + 1, i, hf, _ => by
    simp only [gapF]
    rw [if_neg (fun h => by have := slash2_lt h; omega)]
  | f + 1, 0, i, _, hg => by
    simp only [gapF]
    rw [if_neg (fun h => by have := slash2_lt h; omega)]
  | f + 1, g + 1, i, hf, hg => by
    simp only [gapF]
    split
    · rename_i h
      have := remark_grows h
      exact gapF_fuel zs f g _ (by omega) (by omega)
    · rfl
theorem gapF_stop {zs : List Int} {i : Nat} (f : Nat) (h : slash2 zs i = false) : gapF zs f i = i := by
  cases f
  · rfl
  · simp only [gapF]
    rw [if_neg (by rw [h]; decide)]
theorem gapF_step {zs : List Int} {i : Nat} (h : slash2 zs i = true) : gapF zs zs.length i = gapF zs zs.length (runTo zs isBlank (runTo zs notLf i)) := by
  have h1 := remark_grows h
  have h2 := slash2_lt h
  obtain ⟨n, hn⟩ : ∃ n, zs.length = n + 1 := ⟨zs.length - 1, by omega⟩
  conv => lhs; rw [hn]; simp only [gapF]
  rw [if_pos h]
  exact gapF_fuel zs _ _ _ (by omega) (by omega)
theorem gapF_ge (zs : List Int) : ∀ f i, i ≤ gapF zs f i
  | 0, _ => Nat.le_refl _
  | f + 1, i => by
    simp only [gapF]
    split
    · rename_i h
      exact Nat.le_trans (Nat.le_trans (by omega) (remark_grows h)) (gapF_ge zs f _)
    · exact Nat.le_refl _
theorem gapF_le (zs : List Int) : ∀ f i, i ≤ zs.length → gapF zs f i ≤ zs.length
  | 0, _, h => h
  | f + 1, i, h => by
    simp only [gapF]
    split
    · exact gapF_le zs f _ (runTo_le _ _ _ (runTo_le _ _ _ h))
    · exact h
theorem gap_ge (zs : List Int) (i : Nat) : i ≤ gap zs i := Nat.le_trans (runTo_ge _ _ _) (gapF_ge _ _ _)
theorem gap_le (zs : List Int) (i : Nat) (h : i ≤ zs.length) : gap zs i ≤ zs.length := gapF_le _ _ _ (runTo_le _ _ _ h)

/-! ### numbers, quoted texts, a token -/
/-- Behind a minus, if one stands there. -/
def minusTo (zs : List Int) (i : Nat) : Nat := if stA zs (isC 45) i = true then i + 1 else i
/-- Is it one with a 0 ahead that may not be there? -/
def zeroAhead (zs : List Int) (i : Nat) : Bool := stA zs (isC 48) (minusTo zs i) && (stA zs (isC 45) i || decide (1 < runTo zs isDig (minusTo zs i) - minusTo zs i))
def numBad (zs : List Int) (i : Nat) : Bool :=
  decide (runTo zs isDig (minusTo zs i) - minusTo zs i = 0) || decide (20 < runTo zs isDig (minusTo zs i) - minusTo zs i) || stA zs isLet (runTo zs isDig (minusTo zs i)) || zeroAhead zs i
/-- The place behind the number at a place. -/
def numEnd (zs : List Int) (i : Nat) : Nat := runTo zs isDig (minusTo zs i)
def quoEnd (zs : List Int) (i : Nat) : Nat := runTo zs isPlain (i + 1)
/-- The bytes between two places. -/
def sub (zs : List Int) (i j : Nat) : List Int := (zs.drop i).take (j - i)
def quoBad (ok : List Int → Bool) (zs : List Int) (i : Nat) : Bool := !stA zs (isC 34) (quoEnd zs i) || !ok (sub zs (i + 1) (quoEnd zs i))
def begins (zs : List Int) (i : Nat) : Bool := stA zs isDig i || (stA zs (isC 45) i && stA zs isDig (i + 1))
/-- A token: its kind, its text, its place. -/
structure Tok where
  kind : Int
  text : List Int
  place : Nat
/-- The token at a place, and the place behind it. -/
def tok (ok : List Int → Bool) (sg : Int → Bool) (zs : List Int) (i : Nat) : Option (Tok × Nat) :=
  if i = zs.length then some (⟨0, [], i⟩, i)
  else if stA zs isLet i = true then some (⟨1, sub zs i (runTo zs (fun c => isLet c || isDig c) i), i⟩, runTo zs (fun c => isLet c || isDig c) i)
  else if begins zs i = true then (if numBad zs i = true then none else some (⟨2, sub zs i (numEnd zs i), i⟩, numEnd zs i))
  else if stA zs (isC 34) i = true then (if quoBad ok zs i = true then none else some (⟨3, sub zs (i + 1) (quoEnd zs i), i⟩, quoEnd zs i + 1))
  else if stA zs sg i = true then some (⟨4, sub zs i (i + 1), i⟩, i + 1)
  else none
section
variable {ok : List Int → Bool} {sg : Int → Bool} {zs : List Int} {i : Nat}
theorem tok_end (h : i = zs.length) : tok ok sg zs i = some (⟨0, [], i⟩, i) := by unfold tok; rw [if_pos h]
theorem tok_name (h : i < zs.length) (h1 : stA zs isLet i = true) : tok ok sg zs i = some (⟨1, sub zs i (runTo zs (fun c => isLet c || isDig c) i), i⟩, runTo zs (fun c => isLet c || isDig c) i) := by
  unfold tok
  rw [if_neg (by omega), if_pos h1]
theorem tok_num (h : i < zs.length) (h1 : stA zs isLet i = false) (h2 : begins zs i = true) : tok ok sg zs i = if numBad zs i = true then none else some (⟨2, sub zs i (numEnd zs i), i⟩, numEnd zs i) := by
  unfold tok
  rw [if_neg (by omega), if_neg (by rw [h1]; decide), if_pos h2]
theorem tok_quo (h : i < zs.length) (h1 : stA zs isLet i = false) (h2 : begins zs i = false) (h3 : stA zs (isC 34) i = true) : tok ok sg zs i = if quoBad ok zs i = true then none else some (⟨3, sub zs (i + 1) (quoEnd zs i), i⟩, quoEnd zs i + 1) := by
  unfold tok
  rw [if_neg (by omega), if_neg (by rw [h1]; decide), if_neg (by rw [h2]; decide), if_pos h3]
theorem tok_sign (h : i < zs.length) (h1 : stA zs isLet i = false) (h2 : begins zs i = false) (h3 : stA zs (isC 34) i = false) (h4 : stA zs sg i = true) : tok ok sg zs i = some (⟨4, sub zs i (i + 1), i⟩, i + 1) := by
  unfold tok
  rw [if_neg (by omega), if_neg (by rw [h1]; decide), if_neg (by rw [h2]; decide), if_neg (by rw [h3]; decide), if_pos h4]
theorem tok_none (h : i < zs.length) (h1 : stA zs isLet i = false) (h2 : begins zs i = false) (h3 : stA zs (isC 34) i = false) (h4 : stA zs sg i = false) : tok ok sg zs i = none := by
  unfold tok
  rw [if_neg (by omega), if_neg (by rw [h1]; decide), if_neg (by rw [h2]; decide), if_neg (by rw [h3]; decide), if_neg (by rw [h4]; decide)]
end
theorem tok_le {ok : List Int → Bool} {sg : Int → Bool} {zs : List Int} {i : Nat} {t : Tok} {e : Nat} (hi : i ≤ zs.length) (h : tok ok sg zs i = some (t, e)) : e ≤ zs.length := by
  have hm : minusTo zs i ≤ zs.length := by
    unfold minusTo
    split
    · rename_i h1
      have := stA_lt h1
      omega
    · exact hi
  unfold tok at h
  split at h
  · cases h; exact hi
  split at h
  · cases h; exact runTo_le _ _ _ hi
  split at h
  · split at h
    · cases h
    · cases h; exact runTo_le _ _ _ hm
  split at h
  · rename_i h1
    have := stA_lt h1
    split at h
    · cases h
    · rename_i h2
      cases h
      unfold quoBad at h2
      cases h3 : stA zs (isC 34) (quoEnd zs i)
      · rw [h3] at h2
        exact absurd rfl h2
      · exact stA_lt h3
  split at h
  · rename_i h1
    have := stA_lt h1
    cases h
    omega
  · cases h
/-- All of a text's tokens from a place on, behind those that there are; a fault's number and place. -/
def toksF (ok : List Int → Bool) (sg : Int → Bool) (zs : List Int) : Nat → Nat → List Tok → List Tok × Int × Nat
  | 0, i, l => (l, 0, i)
  | f + 1, i, l =>
    if l.length = 2048 then ([], 16, gap zs i) else
    match tok ok sg zs (gap zs i) with
    | none => ([], 10, gap zs i)
    | some (t, e) => if t.kind = 0 then (l ++ [t], 0, 0) else toksF ok sg zs f e (l ++ [t])
def toks (ok : List Int → Bool) (sg : Int → Bool) (zs : List Int) : List Tok × Int × Nat :=
  if 8192 < zs.length then ([], 16, 8192) else toksF ok sg zs 2049 0 []
end Go.Proofs.YtmjmblbaojchcaaDoor
namespace Go.Proofs.YtmjmblbaojchcaaDoor
open Go.ChangeShapes Go.WideShapes Go.ChangeAt Go.RowKit Go.Shelf

/-- A token's cells. -/
def tokCells (t : Tok) : List Value := [.int .i64 t.kind, .string (strOfNums t.text), .int .i64 t.place]
/-- The cells of some tokens. -/
def toksCells (l : List Tok) : List Value := l.flatMap tokCells
/-- A slice of tokens of the call's own. -/
def OwnT (w : World) (base : Nat) (v : Value) (l : List Tok) : Prop := w.ownsRow base 57 3 v l.length (toksCells l)
theorem toksCells_length (l : List Tok) : (toksCells l).length = l.length * 3 := by
  induction l with
  | nil => rfl
  | cons a r ih =>
    have e : toksCells (a :: r) = tokCells a ++ toksCells r := rfl
    rw [e, List.length_append, ih, List.length_cons]
    simp [tokCells]
    omega
theorem toksCells_snoc (l : List Tok) (t : Tok) : toksCells (l ++ [t]) = toksCells l ++ tokCells t := by
  simp [toksCells]
theorem ownT_nil (w : World) (base : Nat) : OwnT w base (.slice none 0 0) [] := World.ownsRow_nil w base _ _
theorem tok_info : (Tryd.prog.info? 57).map (fun i => (i.zero, i.size, i.bytes)) = some (some (.agg #[.int .i64 0, .string ⟨#[]⟩, .int .i64 0]), 3, 32) := by kernel_rfl
def lenOf : Value → Nat
  | .slice _ n _ => n
  | _ => 0
theorem OwnT.form {w : World} {base : Nat} {v : Value} {l : List Tok} (h : OwnT w base v l) : ∃ a c, v = .slice a l.length c := by
  rcases h.2 with ⟨rfl, h0⟩ | ⟨g, cap, _, rfl, _⟩
  · rw [h0]
    exact ⟨_, _, rfl⟩
  · exact ⟨_, _, rfl⟩
theorem OwnT.below {w w' : World} {base B : Nat} {v : Value} {l : List Tok} (h : OwnT w base v l) (hb : Below B w w') (hB : w.heap.size ≤ B) : OwnT w' base v l := by
  obtain ⟨hl, h'⟩ := h
  refine ⟨hl, ?_⟩
  rcases h' with h1 | ⟨g', cap', cur, hv, h1, hg, h2⟩
  · exact .inl h1
  · have hlt : g' < w.heap.size := by
      rcases Nat.lt_or_ge g' w.heap.size with h | h
      · exact h
      · rw [Array.getElem?_eq_none h] at hg; cases hg
    exact .inr ⟨g', cap', cur, hv, h1, (hb.block g' (by omega)).trans hg, h2⟩
theorem OwnT.base_le {w : World} {base base' : Nat} {v : Value} {l : List Tok} (h : OwnT w base v l) (hb : base' ≤ base) : OwnT w base' v l :=
  ⟨h.1, h.2.elim Or.inl (fun ⟨g, cap, cur, hv, hg, r⟩ => Or.inr ⟨g, cap, cur, hv, Nat.le_trans hb hg, r⟩)⟩
theorem tokCells_new (W : World) (t : Tok) (g : Nat) (hg : g = W.heap.size) : ∀ j u, (tokCells t)[j]? = some u → (W.alloc (.cells #[.int .i64 t.kind, .string (strOfNums t.text), .int .i64 t.place] 57)).cell? ((⟨g, 0, none⟩ : Addr).add j) = some u := by
  intro j u hu
  subst hg
  rw [add_plain, Nat.zero_add, cell_of_row _ _ _ _ _ (0, 0) (heap_alloc_new W _)]
  simpa [tokCells] using hu
theorem tokCells_one (t : Tok) : ∀ u ∈ tokCells t, u.oneCell' = true := by
  intro u hu
  simp [tokCells] at hu
  rcases hu with rfl | rfl | rfl <;> rfl
theorem OwnT.lt {w : World} {base : Nat} {v : Value} {l : List Tok} (h : OwnT w base v l) : ∀ k, v.ownBlock = some k → base ≤ k ∧ k < w.heap.size := by
  intro k hk
  rcases h.2 with ⟨rfl, _⟩ | ⟨g, cap, cur, rfl, hb, hg, _⟩
  · simp [Value.ownBlock] at hk
  · simp [Value.ownBlock] at hk
    subst hk
    refine ⟨hb, ?_⟩
    rcases Nat.lt_or_ge g w.heap.size with h' | h'
    · exact h'
    · rw [Array.getElem?_eq_none h'] at hg; cases hg
theorem OwnT.snoc {w : World} {base : Nat} {v : Value} {l : List Tok} {t : Tok} (h : w.ownsRow base 57 3 v (l.length + 1) (toksCells l ++ tokCells t)) : OwnT w base v (l ++ [t]) := by
  unfold OwnT
  rw [toksCells_snoc, List.length_append, List.length_singleton]
  exact h
theorem grown_new {W0 W3 W4 : World} {v x y z : Value} {l : List Tok} {o : Obj} (hO : OwnT W3 W0.heap.size v l) (hb : Below W0.heap.size W0 W3) (hg : ((W3.alloc (.cells #[x, y, z] 57)).alloc o).grownBy W4 v.ownBlock) :
    W4.cell? ⟨W3.heap.size, 0, none⟩ = some x ∧ Below W0.heap.size W0 W4 := by
  have hs := hb.size
  constructor
  · rw [World.cell?_of_block (a := ⟨W3.heap.size, 0, none⟩) (hg.block W3.heap.size (by simp; omega) (fun e => by have := hO.lt _ e.symm; omega))]
    rw [World.cell?_alloc_lt _ _ _ (by simp)]
    rw [cell_of_row _ _ _ _ _ (0, 0) (heap_alloc_new W3 _)]
    rfl
  · exact (((hb.alloc hs _).alloc (by simp; omega) _)).grown hg (by simp; omega) (fun k hk => (hO.lt k hk).1)
theorem OwnT.setFar {w : World} {base : Nat} {v : Value} {l : List Tok} (h : OwnT w base v l) {p : Addr} (hp : p.block < base) (x : Value) : OwnT (w.setCell p x) base v l := by
  obtain ⟨hl, h'⟩ := h
  refine ⟨hl, ?_⟩
  rcases h' with h1 | ⟨g', cap', cur, hv, h1, hg, h2⟩
  · exact .inl h1
  · exact .inr ⟨g', cap', cur, hv, h1, (Below.heap_setCell w p x g' (by omega)).trans hg, h2⟩
theorem OwnT.cells {w : World} {base : Nat} {v : Value} {l : List Tok} (h : OwnT w base v l) (hne : l ≠ []) :
    ∃ g c, v = .slice (some ⟨g, 0, none⟩) l.length c ∧ l.length ≤ c ∧ base ≤ g ∧ g < w.heap.size ∧ ∀ k, k < l.length * 3 → w.cell? ⟨g, k, none⟩ = (toksCells l)[k]? := by
  obtain ⟨hl, h'⟩ := h
  rcases h' with ⟨_, h0⟩ | ⟨g, cap, cur, rfl, hb, hg, hn, hm, hs, ht⟩
  · exact absurd (List.eq_nil_of_length_eq_zero h0) hne
  · have hlt : g < w.heap.size := by
      rcases Nat.lt_or_ge g w.heap.size with h | h
      · exact h
      · rw [Array.getElem?_eq_none h] at hg; cases hg
    refine ⟨g, cap, rfl, hn, hb, hlt, fun k hk => ?_⟩
    rw [cell_of_row w g k cur _ (0, 0) hg, ← ht, List.getElem?_take, if_pos hk, Array.getElem?_toList]
/-- A slice of tokens, cell by cell. -/
theorem tok_cell {w W : World} {g : Nat} {l : List Tok} (h : ∀ j, j < l.length * 3 → w.cell? ⟨g, j, none⟩ = (toksCells l)[j]?) (hg : g < w.heap.size) (hb : Below w.heap.size w W) (k : Nat) (t : Tok) (r : List Tok) (hk : l.drop k = t :: r) :
    k < l.length ∧ W.cell? ⟨g, k * 3, none⟩ = some (.int .i64 t.kind) ∧ W.cell? ⟨g, k * 3 + 1, none⟩ = some (.string (strOfNums t.text)) ∧ W.cell? ⟨g, k * 3 + 2, none⟩ = some (.int .i64 t.place) := by
  have hlt : k < l.length := by
    rcases Nat.lt_or_ge k l.length with h | h
    · exact h
    · rw [List.drop_eq_nil_of_le h] at hk; cases hk
  have hc : ∀ j, j < 3 → (toksCells l)[k * 3 + j]? = (tokCells t)[j]? := by
    intro j hj
    have e : toksCells l = toksCells (l.take k) ++ (tokCells t ++ toksCells r) := by
      conv => lhs; rw [← List.take_append_drop k l, hk]
      simp [toksCells]
    have hl1 : (toksCells (l.take k)).length = k * 3 := by
      rw [toksCells_length, List.length_take]
      omega
    rw [e, List.getElem?_append_right (by omega), hl1, show k * 3 + j - k * 3 = j by omega, List.getElem?_append_left (by simp [tokCells]; omega)]
  refine ⟨hlt, ?_, ?_, ?_⟩
  · rw [hb.cell (p := ⟨g, k * 3, none⟩) hg, h _ (by omega)]
    exact hc 0 (by omega)
  · rw [hb.cell (p := ⟨g, k * 3 + 1, none⟩) hg, h _ (by omega)]
    exact hc 1 (by omega)
  · rw [hb.cell (p := ⟨g, k * 3 + 2, none⟩) hg, h _ (by omega)]
    exact hc 2 (by omega)
theorem wrap64_in (n : Int) (h1 : -9223372036854775808 ≤ n) (h2 : n ≤ 9223372036854775807) : wrap64 n = n := by
  unfold wrap64
  omega
end Go.Proofs.YtmjmblbaojchcaaDoor
namespace Go.Proofs.YtmjmblbaojchcaaDoor
open Go.ChangeShapes Go.WideShapes Go.ChangeAt Go.RowKit Go.Shelf

/-- Below block B the world w' is as w was, but for the block R. -/
structure Exc (R B : Nat) (w w' : World) : Prop where
  os : w'.os = w.os
  tape : w'.tape = w.tape
  output : w'.output = w.output
  size : w.heap.size ≤ w'.heap.size
  block : ∀ k, k < B → k ≠ R → w'.heap[k]? = w.heap[k]?
theorem Exc.refl (R B : Nat) (w : World) : Exc R B w w := ⟨rfl, rfl, rfl, Nat.le_refl _, fun _ _ _ => rfl⟩
theorem Exc.trans {R B : Nat} {a b c : World} (h : Exc R B a b) (k : Exc R B b c) : Exc R B a c :=
  ⟨k.os.trans h.os, k.tape.trans h.tape, k.output.trans h.output, Nat.le_trans h.size k.size, fun i hi hr => (k.block i hi hr).trans (h.block i hi hr)⟩
theorem Exc.mono {R B B' : Nat} {w w' : World} (h : Exc R B w w') (hB : B' ≤ B) : Exc R B' w w' := ⟨h.os, h.tape, h.output, h.size, fun k hk hr => h.block k (Nat.lt_of_lt_of_le hk hB) hr⟩
theorem Exc.of_below {R B : Nat} {w w' : World} (h : Below B w w') : Exc R B w w' := ⟨h.os, h.tape, h.output, h.size, fun k hk _ => h.block k hk⟩
/-- Two steps, each told from where it begins. -/
theorem Exc.then {R : Nat} {a b c : World} (h : Exc R a.heap.size a b) (k : Exc R b.heap.size b c) : Exc R a.heap.size a c := h.trans (k.mono h.size)
theorem Exc.thenB {R B : Nat} {a b c : World} (h : Exc R B a b) (hB : B ≤ a.heap.size) (k : Exc R b.heap.size b c) : Exc R B a c := h.trans (k.mono (Nat.le_trans hB h.size))
theorem Exc.bel {R B : Nat} {a b c : World} (h : Exc R B a b) (hB : B ≤ a.heap.size) (k : Below b.heap.size b c) : Exc R B a c := h.thenB hB (.of_below k)
theorem Exc.alloc {R B : Nat} {a w : World} (h : Exc R B a w) (hB : B ≤ w.heap.size) (o : Obj) : Exc R B a (w.alloc o) :=
  h.trans (.of_below ((Below.refl _ _).alloc hB o))
theorem Exc.drew {R B : Nat} {a w : World} (h : Exc R B a w) : Exc R B a w.drew := ⟨h.os, h.tape, h.output, h.size, h.block⟩
theorem Exc.setCell {R B : Nat} {a w : World} (h : Exc R B a w) {p : Addr} (hp : p.block = R ∨ B ≤ p.block) (u : Value) : Exc R B a (w.setCell p u) :=
  h.trans ⟨rfl, rfl, rfl, by simp [World.setCell], fun k hk hr => Below.heap_setCell _ _ _ _ (by rcases hp with h | h <;> omega)⟩
theorem Exc.grown {R B : Nat} {a w w' : World} {row : Option Nat} (h : Exc R B a w) (hg : w.grownBy w' row) (hB : B ≤ w.heap.size) (hr : ∀ k, row = some k → B ≤ k ∨ k = R) : Exc R B a w' :=
  h.trans ⟨hg.os, hg.tape, hg.output, hg.size, fun k hk hkr => hg.block k (by omega) (fun e => by have := hr k e.symm; omega)⟩
theorem Exc.cell {R B : Nat} {w w' : World} (h : Exc R B w w') {p : Addr} (hp : p.block < B) (hr : p.block ≠ R) : w'.cell? p = w.cell? p := World.cell?_of_block (w := w) (h.block p.block hp hr)
theorem Exc.frozen {R B : Nat} {w w' : World} (h : Exc R B w w') {p : Addr} (hp : p.block < B) (hr : p.block ≠ R) : w'.frozen? p = w.frozen? p := World.frozen?_of_block (w := w) (h.block p.block hp hr)
/-- Where R is a block of the call's own. -/
theorem Exc.below {R B : Nat} {w w' : World} (h : Exc R B w w') (hR : B ≤ R) : Below B w w' := ⟨h.os, h.tape, h.output, h.size, fun k hk => h.block k hk (by omega)⟩
/-- A row that the call owns, and that does not lie in R, stays. -/
theorem Exc.ownsRow {R : Nat} {w w' : World} (h : Exc R w.heap.size w w') {base : Nat} {e : TypeId} {size : Nat} {v : Value} {n : Nat} {xs : List Value} (ho : w.ownsRow base e size v n xs) (hR : v.ownBlock ≠ some R) : w'.ownsRow base e size v n xs := by
  obtain ⟨hl, h'⟩ := ho
  refine ⟨hl, ?_⟩
  rcases h' with h1 | ⟨g', cap', cur, hv, h1, hg, h2⟩
  · exact .inl h1
  · have hlt : g' < w.heap.size := by
      rcases Nat.lt_or_ge g' w.heap.size with h | h
      · exact h
      · rw [Array.getElem?_eq_none h] at hg; cases hg
    subst hv
    exact .inr ⟨g', cap', cur, rfl, h1, (h.block g' hlt (fun e => hR (by simp [Value.ownBlock, e]))).trans hg, h2⟩
theorem ownsRow_base {w : World} {base base' : Nat} {e : TypeId} {size : Nat} {v : Value} {n : Nat} {xs : List Value} (h : w.ownsRow base e size v n xs) (hb : base' ≤ base) : w.ownsRow base' e size v n xs :=
  ⟨h.1, h.2.elim Or.inl (fun ⟨g, cap, cur, hv, hg, r⟩ => Or.inr ⟨g, cap, cur, hv, Nat.le_trans hb hg, r⟩)⟩
theorem ownsRow_lt {w : World} {base : Nat} {e : TypeId} {size : Nat} {v : Value} {n : Nat} {xs : List Value} (h : w.ownsRow base e size v n xs) : ∀ k, v.ownBlock = some k → base ≤ k ∧ k < w.heap.size := by
  intro k hk
  rcases h.2 with ⟨rfl, _⟩ | ⟨g, cap, cur, rfl, hb, hg, _⟩
  · simp [Value.ownBlock] at hk
  · simp [Value.ownBlock] at hk
    subst hk
    refine ⟨hb, ?_⟩
    rcases Nat.lt_or_ge g w.heap.size with h' | h'
    · exact h'
    · rw [Array.getElem?_eq_none h'] at hg; cases hg
theorem ownsRow_form {w : World} {base : Nat} {e : TypeId} {size : Nat} {v : Value} {n : Nat} {xs : List Value} (h : w.ownsRow base e size v n xs) : ∃ a c, v = .slice a n c := by
  rcases h.2 with ⟨rfl, h0⟩ | ⟨g, cap, _, rfl, _⟩
  · rw [h0]
    exact ⟨_, _, rfl⟩
  · exact ⟨_, _, rfl⟩
/-- What lies in a block, told whole. -/
theorem blk_cell {w : World} {g : Nat} {cs : Array Value} {t : TypeId} (h : w.heap[g]? = some (.cells cs t (0, 0))) (i : Nat) : w.cell? ⟨g, i, none⟩ = cs[i]? := cell_of_row w g i cs t (0, 0) h
theorem blk_frozen {w : World} {g : Nat} {cs : Array Value} {t : TypeId} (h : w.heap[g]? = some (.cells cs t (0, 0))) (i : Nat) : w.frozen? ⟨g, i, none⟩ = false := by
  simp [World.frozen?, show w.heap[g]? = _ from h]
theorem blk_lt {w : World} {g : Nat} {o : Obj} (h : w.heap[g]? = some o) : g < w.heap.size := by
  rcases Nat.lt_or_ge g w.heap.size with h' | h'
  · exact h'
  · rw [Array.getElem?_eq_none h'] at h; cases h
theorem blk_set {w : World} {g : Nat} {cs : Array Value} {t : TypeId} (h : w.heap[g]? = some (.cells cs t (0, 0))) (i : Nat) (u : Value) : (w.setCell ⟨g, i, none⟩ u).heap[g]? = some (.cells (cs.setIfInBounds i u) t (0, 0)) := by
  simp [World.setCell, Array.getElem?_modify, h]
theorem blk_set_ne {w : World} {g : Nat} {o : Obj} (h : w.heap[g]? = some o) {p : Addr} (hp : p.block ≠ g) (u : Value) : (w.setCell p u).heap[g]? = some o :=
  (Below.heap_setCell w p u g (fun e => hp e.symm)).trans h
theorem blk_alloc {w : World} {g : Nat} {o : Obj} (h : w.heap[g]? = some o) (o' : Obj) : (w.alloc o').heap[g]? = some o :=
  (Below.heap_alloc w o' g (blk_lt h)).trans h
theorem blk2 {w : World} {g : Nat} {x y : Value} {t : TypeId} (h : w.heap[g]? = some (.cells #[x, y] t (0, 0))) :
    g < w.heap.size ∧ w.cell? ⟨g, 0, none⟩ = some x ∧ w.cell? ⟨g, 1, none⟩ = some y ∧ w.frozen? ⟨g, 0, none⟩ = false ∧ w.frozen? ⟨g, 1, none⟩ = false :=
  ⟨blk_lt h, (blk_cell h 0).trans rfl, (blk_cell h 1).trans rfl, blk_frozen h 0, blk_frozen h 1⟩
theorem blk3 {w : World} {g : Nat} {x y z : Value} {t : TypeId} (h : w.heap[g]? = some (.cells #[x, y, z] t (0, 0))) :
    g < w.heap.size ∧ w.cell? ⟨g, 0, none⟩ = some x ∧ w.cell? ⟨g, 1, none⟩ = some y ∧ w.cell? ⟨g, 2, none⟩ = some z ∧ w.frozen? ⟨g, 0, none⟩ = false ∧ w.frozen? ⟨g, 1, none⟩ = false ∧ w.frozen? ⟨g, 2, none⟩ = false :=
  ⟨blk_lt h, (blk_cell h 0).trans rfl, (blk_cell h 1).trans rfl, (blk_cell h 2).trans rfl, blk_frozen h 0, blk_frozen h 1, blk_frozen h 2⟩
theorem blk_below {w W : World} {B g : Nat} {o : Obj} (h : w.heap[g]? = some o) (hb : Below B w W) (hg : g < B) : W.heap[g]? = some o := (hb.block g hg).trans h
theorem blk_exc {w W : World} {R B g : Nat} {o : Obj} (h : w.heap[g]? = some o) (hb : Exc R B w W) (hg : g < B) (hne : g ≠ R) : W.heap[g]? = some o := (hb.block g hg hne).trans h
/-- The world behind a walk by what is known of it. -/
theorem post_gen {P : Program} {f : Func} {Q : Ending → World → Prop} {ex : Exit} {a : Act} {W : World} (p : World → Prop) (hp : p W) (k : ∀ Wf, p Wf → bodyPost P f Q ex a Wf) : bodyPost P f Q ex a W := k W hp
/-- A block of which each cell but the named one stays; and one all of whose three cells are written. -/
theorem blk_set3 {w : World} {g : Nat} {x y z : Value} {t : TypeId} (h : w.heap[g]? = some (.cells #[x, y, z] t (0, 0))) (x' y' z' : Value) :
    (((w.setCell ⟨g, 0, none⟩ x').setCell ⟨g, 1, none⟩ y').setCell ⟨g, 2, none⟩ z').heap[g]? = some (.cells #[x', y', z'] t (0, 0)) :=
  (blk_set (blk_set (blk_set h 0 x') 1 y') 2 z').trans rfl
theorem blk_set2 {w : World} {g : Nat} {x y : Value} {t : TypeId} (h : w.heap[g]? = some (.cells #[x, y] t (0, 0))) (x' y' : Value) :
    ((w.setCell ⟨g, 0, none⟩ x').setCell ⟨g, 1, none⟩ y').heap[g]? = some (.cells #[x', y'] t (0, 0)) :=
  (blk_set (blk_set h 0 x') 1 y').trans rfl
theorem exc_set (w : World) (g i : Nat) (x : Value) : Exc g w.heap.size w (w.setCell ⟨g, i, none⟩ x) := (Exc.refl g _ w).setCell (p := ⟨g, i, none⟩) (.inl rfl) x
theorem exc_set3 (w : World) (g : Nat) (x y z : Value) : Exc g w.heap.size w (((w.setCell ⟨g, 0, none⟩ x).setCell ⟨g, 1, none⟩ y).setCell ⟨g, 2, none⟩ z) :=
  ((exc_set w g 0 x).setCell (p := ⟨g, 1, none⟩) (.inl rfl) y).setCell (p := ⟨g, 2, none⟩) (.inl rfl) z
theorem Exc.set3 {R B : Nat} {a w : World} (h : Exc R B a w) {g : Nat} (hg : B ≤ g) (x y z : Value) : Exc R B a (((w.setCell ⟨g, 0, none⟩ x).setCell ⟨g, 1, none⟩ y).setCell ⟨g, 2, none⟩ z) :=
  ((h.setCell (p := ⟨g, 0, none⟩) (.inr hg) x).setCell (p := ⟨g, 1, none⟩) (.inr hg) y).setCell (p := ⟨g, 2, none⟩) (.inr hg) z
theorem Exc.set1 {R B : Nat} {a w : World} (h : Exc R B a w) {g : Nat} (hg : B ≤ g) (i : Nat) (x : Value) : Exc R B a (w.setCell ⟨g, i, none⟩ x) :=
  h.setCell (p := ⟨g, i, none⟩) (.inr hg) x
end Go.Proofs.YtmjmblbaojchcaaDoor
