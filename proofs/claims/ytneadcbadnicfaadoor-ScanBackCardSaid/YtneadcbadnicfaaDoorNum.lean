/-
  Plain facts on numbers of bytes, the lowest first: no run of the program stands in this text. Conditions: those that each theorem names.
-/
import Derived.WalkKit
import Derived.Laws.BitsLemmas
namespace Go.Proofs.YtneadcbadnicfaaDoor
open Go.RowKit
/-- The number of the first k bytes, the lowest first. -/
def leNum (f : Nat → Int) : Nat → Int
  | 0 => 0
  | k + 1 => leNum f k + f k * 2 ^ (8 * k)
theorem leNum_bd (f : Nat → Int) (n : Nat) (hf : ∀ j, j < n → 0 ≤ f j ∧ f j ≤ 255) : ∀ k, k ≤ n → 0 ≤ leNum f k ∧ leNum f k < 2 ^ (8 * k)
  | 0, _ => by simp [leNum]
  | k + 1, h => by
    have ih := leNum_bd f n hf k (by omega)
    obtain ⟨f0, f1⟩ := hf k (by omega)
    have hp : (0 : Int) < 2 ^ (8 * k) := Int.pow_pos (by decide)
    have e : (2 : Int) ^ (8 * (k + 1)) = 256 * 2 ^ (8 * k) := by
      rw [show 8 * (k + 1) = 8 * k + 8 from by omega, Int.pow_add]
      omega
    have h1 : 0 ≤ f k * 2 ^ (8 * k) := Int.mul_nonneg f0 (by omega)
    have h2 : f k * 2 ^ (8 * k) ≤ 255 * 2 ^ (8 * k) := Int.mul_le_mul_of_nonneg_right f1 (by omega)
    rw [e]
    simp only [leNum]
    generalize f k * 2 ^ (8 * k) = m at *
    generalize (2 : Int) ^ (8 * k) = P at *
    omega
theorem leNum_congr (f g : Nat → Int) : ∀ k, (∀ j, j < k → f j = g j) → leNum f k = leNum g k
  | 0, _ => rfl
  | k + 1, h => by
    simp only [leNum]
    rw [leNum_congr f g k (fun j hj => h j (by omega)), h k (by omega)]
/-- The number of n bytes from a place on. -/
def leAt (zs : List Int) (a n : Nat) : Int := leNum (fun j => zs.getD (a + j) 0) n
theorem pow_le56 (k : Nat) (hk : k < 8) : (2 : Int) ^ (8 * k) ≤ 72057594037927936 := by
  have : (2 : Nat) ^ (8 * k) ≤ 2 ^ 56 := Nat.pow_le_pow_right (by decide) (by omega)
  have h2 : ((2 ^ (8 * k) : Nat) : Int) ≤ ((2 ^ 56 : Nat) : Int) := Int.ofNat_le.2 this
  simpa using h2
theorem or_byte (k : Nat) (hk : k < 8) (y z : Int) (y0 : 0 ≤ y) (y1 : y < 2 ^ (8 * k)) (z0 : 0 ≤ z) (z1 : z ≤ 255) :
    bits BinOp.or .u64 y (IntKind.u64.wrap (IntKind.u64.wrap z * 2 ^ (8 * k))) = y + z * 2 ^ (8 * k) := by
  rw [IntWalk.u64_in z ⟨z0, by omega⟩]
  have hp : (0 : Int) < 2 ^ (8 * k) := Int.pow_pos (by decide)
  have hP := pow_le56 k hk
  have h1 : 0 ≤ z * 2 ^ (8 * k) := Int.mul_nonneg z0 (by omega)
  have h2 : z * 2 ^ (8 * k) ≤ 255 * 2 ^ (8 * k) := Int.mul_le_mul_of_nonneg_right z1 (by omega)
  have hm : (z * 2 ^ (8 * k)) % 2 ^ (8 * k) = 0 := Int.mul_emod_left z _
  have hc : bits BinOp.or .u64 y (z * 2 ^ (8 * k)) = bits BinOp.or .u64 (z * 2 ^ (8 * k)) y := by simp only [bits, BitVec.or_comm]
  rw [IntWalk.u64_in _ ⟨h1, by omega⟩, hc, bits_join .u64 64 (by decide) (fun n h0 h1 => IntWalk.u64_in n ⟨h0, by omega⟩) (8 * k) _ _ h1 hm (by omega) y0 y1 (by omega)]
  omega
theorem add_byte (k : Nat) (hk : k < 8) (y z : Int) (y0 : 0 ≤ y) (y1 : y < 2 ^ (8 * k)) (z0 : 0 ≤ z) (z1 : z ≤ 255) :
    IntKind.u64.wrap (y + IntKind.u64.wrap (IntKind.u64.wrap z * 2 ^ (8 * k))) = y + z * 2 ^ (8 * k) := by
  rw [IntWalk.u64_in z ⟨z0, by omega⟩]
  have hp : (0 : Int) < 2 ^ (8 * k) := Int.pow_pos (by decide)
  have hP := pow_le56 k hk
  have h1 : 0 ≤ z * 2 ^ (8 * k) := Int.mul_nonneg z0 (by omega)
  have h2 : z * 2 ^ (8 * k) ≤ 255 * 2 ^ (8 * k) := Int.mul_le_mul_of_nonneg_right z1 (by omega)
  rw [IntWalk.u64_in _ ⟨h1, by omega⟩, IntWalk.u64_in _ ⟨by omega, by omega⟩]
theorem ret_int {k : IntKind} {a b : Int} (h : a = b) : Ending.returned (.int k a) = .returned (.int k b) := by rw [h]
theorem ret_bool {a b : Bool} (h : a = b) : Ending.returned (.bool a) = .returned (.bool b) := by rw [h]
theorem ret_int_bool {k : IntKind} {a b : Int} {c : Bool} (h : a = b) : Ending.returned (.tuple #[.int k a, .bool c]) = .returned (.tuple #[.int k b, .bool c]) := by rw [h]
/-- The size in bytes of a kind's numbers, by the kind's number. -/
def kSize (n : Int) : Int :=
  if n = 1 ∨ n = 2 ∨ n = 6 ∨ n = 10 then 1 else if n = 3 ∨ n = 7 then 2 else if n = 4 ∨ n = 8 then 4 else if n = 5 ∨ n = 9 then 8 else 0
theorem kSize_else (n : Int) (h : n < 1 ∨ 10 < n) : kSize n = 0 := by
  unfold kSize
  rw [if_neg (by omega), if_neg (by omega), if_neg (by omega), if_neg (by omega)]
def kSign (n : Int) : Bool := decide (2 ≤ n ∧ n ≤ 5)
/-- The lowest bytes of a number with their sign, in 64 bits. -/
def sgn (m n : Int) : Int := if n % (2 * m) < m then n % (2 * m) else n % (2 * m) + (18446744073709551616 - 2 * m)
def sgnOf (n s : Int) : Int := if s = 1 then sgn 128 n else if s = 2 then sgn 32768 n else if s = 4 then sgn 2147483648 n else n
theorem sgnOf_else (n s : Int) (h1 : ¬ s = 1) (h2 : ¬ s = 2) (h4 : ¬ s = 4) : sgnOf n s = n := by
  unfold sgnOf
  rw [if_neg h1, if_neg h2, if_neg h4]
theorem and_8 (n : Int) (h0 : 0 ≤ n) (h1 : n ≤ 18446744073709551615) : bits BinOp.and .u64 n 255 = n % 256 :=
  bits_mask .u64 64 (by decide) (fun n h0 h1 => IntWalk.u64_in n ⟨h0, by omega⟩) 8 (by decide) n h0 (by omega)
theorem and_16 (n : Int) (h0 : 0 ≤ n) (h1 : n ≤ 18446744073709551615) : bits BinOp.and .u64 n 65535 = n % 65536 :=
  bits_mask .u64 64 (by decide) (fun n h0 h1 => IntWalk.u64_in n ⟨h0, by omega⟩) 16 (by decide) n h0 (by omega)
theorem and_32 (n : Int) (h0 : 0 ≤ n) (h1 : n ≤ 18446744073709551615) : bits BinOp.and .u64 n 4294967295 = n % 4294967296 :=
  bits_mask .u64 64 (by decide) (fun n h0 h1 => IntWalk.u64_in n ⟨h0, by omega⟩) 32 (by decide) n h0 (by omega)
theorem or_comm64 (x y : Int) : bits BinOp.or .u64 x y = bits BinOp.or .u64 y x := by simp only [bits, BitVec.or_comm]
theorem or_8 (y : Int) (h0 : 0 ≤ y) (h1 : y < 256) : bits BinOp.or .u64 y 18446744073709551360 = y + 18446744073709551360 := by
  rw [or_comm64, bits_join .u64 64 (by decide) (fun n h0 h1 => IntWalk.u64_in n ⟨h0, by omega⟩) 8 _ _ (by decide) (by decide) (by decide) h0 h1 (by omega)]
  omega
theorem or_16 (y : Int) (h0 : 0 ≤ y) (h1 : y < 65536) : bits BinOp.or .u64 y 18446744073709486080 = y + 18446744073709486080 := by
  rw [or_comm64, bits_join .u64 64 (by decide) (fun n h0 h1 => IntWalk.u64_in n ⟨h0, by omega⟩) 16 _ _ (by decide) (by decide) (by decide) h0 h1 (by omega)]
  omega
theorem or_32 (y : Int) (h0 : 0 ≤ y) (h1 : y < 4294967296) : bits BinOp.or .u64 y 18446744069414584320 = y + 18446744069414584320 := by
  rw [or_comm64, bits_join .u64 64 (by decide) (fun n h0 h1 => IntWalk.u64_in n ⟨h0, by omega⟩) 32 _ _ (by decide) (by decide) (by decide) h0 h1 (by omega)]
  omega
theorem sgnOf_1 (n : Int) : sgnOf n 1 = if n % 256 < 128 then n % 256 else n % 256 + 18446744073709551360 := rfl
theorem sgnOf_2 (n : Int) : sgnOf n 2 = if n % 65536 < 32768 then n % 65536 else n % 65536 + 18446744073709486080 := rfl
theorem sgnOf_4 (n : Int) : sgnOf n 4 = if n % 4294967296 < 2147483648 then n % 4294967296 else n % 4294967296 + 18446744069414584320 := rfl
end Go.Proofs.YtneadcbadnicfaaDoor
