/-
  The model's own bytes of a sign are the plain ones; the lowest 21 bits of a number. Conditions: those that each theorem names.
-/
import Derived.Test.YtneadcbadnicfaaDoorRune
namespace Go.Proofs.YtneadcbadnicfaaDoor
open Go.RowKit Go.Lib

theorem and_i32 (r : Int) : bits BinOp.and .i32 r 2097151 = r % 2097152 := by
  have h2 : (BitVec.ofInt 32 2097151).toNat = 2 ^ 21 - 1 := by decide
  show IntKind.i32.wrap ((BitVec.ofInt 32 r &&& BitVec.ofInt 32 2097151).toNat : Int) = _
  rw [BitVec.toNat_and, h2, Nat.and_two_pow_sub_one_eq_mod, BitVec.toNat_ofInt, IntKind.wrap_i32]
  have h3 : (2 : Nat) ^ 21 = 2097152 := rfl
  have h4 : ((2 ^ 32 : Nat) : Int) = 4294967296 := rfl
  rw [h3, h4]
  omega
theorem encode_enc (c : Nat) (hc : isRune c) : (Utf8.encode (c : Int)).size = (enc c).length ∧ ∀ j, j < (enc c).length → (((Utf8.encode (c : Int)).data.toList.getD j 0).toNat : Int) = (enc c).getD j 0 := by
  have hv : Utf8.valid (c : Int) = true := by
    unfold isRune at hc
    simp only [Utf8.valid]
    simp
    omega
  unfold isRune at hc
  unfold Utf8.encode enc
  simp only [hv, if_true, Int.toNat_natCast]
  by_cases h1 : c < 128
  · rw [if_pos h1, if_pos h1]
    refine ⟨rfl, fun j hj => ?_⟩
    obtain rfl : j = 0 := by simp at hj; omega
    show ((UInt8.ofNat c).toNat : Int) = (c : Int)
    simp; omega
  rw [if_neg h1, if_neg h1]
  by_cases h2 : c < 2048
  · rw [if_pos h2, if_pos h2]
    refine ⟨rfl, fun j hj => ?_⟩
    obtain rfl | rfl : j = 0 ∨ j = 1 := by simp at hj; omega
    · show ((UInt8.ofNat (192 + c / 64)).toNat : Int) = ((192 + c / 64 : Nat) : Int)
      simp only [UInt8.toNat_ofNat']; omega
    · show ((UInt8.ofNat (128 + c % 64)).toNat : Int) = ((128 + c % 64 : Nat) : Int)
      simp only [UInt8.toNat_ofNat']; omega
  rw [if_neg h2, if_neg h2]
  by_cases h3 : c < 65536
  · rw [if_pos h3, if_pos h3]
    refine ⟨rfl, fun j hj => ?_⟩
    obtain rfl | rfl | rfl : j = 0 ∨ j = 1 ∨ j = 2 := by simp at hj; omega
    · show ((UInt8.ofNat (224 + c / 4096)).toNat : Int) = ((224 + c / 4096 : Nat) : Int)
      simp only [UInt8.toNat_ofNat']; omega
    · show ((UInt8.ofNat (128 + c / 64 % 64)).toNat : Int) = ((128 + c / 64 % 64 : Nat) : Int)
      simp only [UInt8.toNat_ofNat']; omega
    · show ((UInt8.ofNat (128 + c % 64)).toNat : Int) = ((128 + c % 64 : Nat) : Int)
      simp only [UInt8.toNat_ofNat']; omega
  rw [if_neg h3, if_neg h3]
  refine ⟨rfl, fun j hj => ?_⟩
  obtain rfl | rfl | rfl | rfl : j = 0 ∨ j = 1 ∨ j = 2 ∨ j = 3 := by simp at hj; omega
  · show ((UInt8.ofNat (240 + c / 262144)).toNat : Int) = ((240 + c / 262144 : Nat) : Int)
    simp only [UInt8.toNat_ofNat']; omega
  · show ((UInt8.ofNat (128 + c / 4096 % 64)).toNat : Int) = ((128 + c / 4096 % 64 : Nat) : Int)
    simp only [UInt8.toNat_ofNat']; omega
  · show ((UInt8.ofNat (128 + c / 64 % 64)).toNat : Int) = ((128 + c / 64 % 64 : Nat) : Int)
    simp only [UInt8.toNat_ofNat']; omega
  · show ((UInt8.ofNat (128 + c % 64)).toNat : Int) = ((128 + c % 64 : Nat) : Int)
    simp only [UInt8.toNat_ofNat']; omega
end Go.Proofs.YtneadcbadnicfaaDoor
