/-
  Plain facts on a number's digits: they say the number, they are a number's text. No run of the program stands in this text. Conditions: those that each theorem names.
-/
import Derived.WalkKit
import Derived.BigQuiet
import Derived.Laws.BytesArg
import Derived.Below
import Derived.Lib.ParseIntB
import Derived.Laws.BitsLemmas
import Derived.IntWalk
namespace Go.Proofs.YtiknhkkeifemcaaGreatDoor
open Go.RowKit
theorem bel_drewN {B : Nat} {a w : World} (h : Below B a w) (n : Nat) : Below B a (w.drewN n) := h.trans ⟨rfl, rfl, rfl, Nat.le_refl _, fun _ _ => rfl⟩
theorem conv_zero {P : Program} (w : World) (src e dst : TypeId) (hs : P.underlying src = some (.slice e)) (he : P.underlying e = some (.int .u8)) (hd : P.underlying dst = some .string) (a : Option Addr) (c : Nat) :
    (convert src dst (.slice a 0 c)).run P w = .ok (.string (strOfNums [])) w := by
  rw [run_convert_bytes_string w src dst e a 0 c hs he hd]
  cases a with
  | none => simp [Conv.bytesToString]; rfl
  | some x =>
    have hl : (loadCells x 0).run P w = .ok (([] : List Int).map (Value.int .u8)).toArray w := run_loadCells_list (P := P) w x [] (fun j v hj => by simp at hj)
    rw [run_bytesToString w x 0 c [] hl]
    simp [strOfNums]
    rfl
end Go.Proofs.YtiknhkkeifemcaaGreatDoor
namespace Go.Proofs.YtiknhkkeifemcaaGreatDoor
open Go.RowKit
def isDig (c : Int) : Bool := decide (48 ≤ c ∧ c ≤ 57)
def isC (x : Int) (c : Int) : Bool := decide (c = x)
def stA (zs : List Int) (p : Int → Bool) (i : Nat) : Bool := decide (i < zs.length) && p (zs.getD i 0)
/-! ### blanks and remarks -/
/-! ### numbers, quoted texts, a token -/
def sub (zs : List Int) (i j : Nat) : List Int := (zs.drop i).take (j - i)
def begins (zs : List Int) (i : Nat) : Bool := stA zs isDig i || (stA zs (isC 45) i && stA zs isDig (i + 1))
section
variable {ok : List Int → Bool} {sg : Int → Bool} {zs : List Int} {i : Nat}
end
end Go.Proofs.YtiknhkkeifemcaaGreatDoor
namespace Go.Proofs.YtiknhkkeifemcaaGreatDoor
open Go.RowKit
def maxU : Nat := 18446744073709551615
theorem xor_max (n : Nat) (h : (n : Int) ≤ 18446744073709551615) : IntKind.u64.wrap (bits BinOp.xor .u64 IntKind.u64.max n + 1) = (((18446744073709551616 - n) % 18446744073709551616 : Nat) : Int) := by
  have e : bits BinOp.xor .u64 IntKind.u64.max n = 18446744073709551615 - n := by
    show IntKind.u64.wrap (((BitVec.ofInt 64 IntKind.u64.max) ^^^ BitVec.ofInt 64 (n : Int)).toNat : Int) = _
    rw [show BitVec.ofInt 64 IntKind.u64.max = BitVec.allOnes 64 from by decide, BitVec.allOnes_xor, BitVec.toNat_not, BitVec.ofInt_natCast, BitVec.toNat_ofNat, Nat.mod_eq_of_lt (by omega), IntKind.wrap_u64]
    omega
  rw [e, IntKind.wrap_u64]
  omega
end Go.Proofs.YtiknhkkeifemcaaGreatDoor
namespace Go.Proofs.YtiknhkkeifemcaaGreatDoor
open Go.RowKit

def decD : Nat → Nat → List Int
  | 0, n => [48 + ((n % 10 : Nat) : Int)]
  | f + 1, n => if n ≤ 9 then [48 + ((n % 10 : Nat) : Int)] else decD f (n / 10) ++ [48 + ((n % 10 : Nat) : Int)]
def decDigs (n : Nat) : List Int := decD 20 n
theorem decD_fuel : ∀ (f g n : Nat), n < 10 ^ (f + 1) → n < 10 ^ (g + 1) → decD f n = decD g n
  | 0, 0, _, _, _ => rfl
  | 0, g + 1, n, hf, _ => by
    simp only [decD]
    rw [if_pos (by omega)]
  | f + 1, 0, n, _, hg => by
    simp only [decD]
    rw [if_pos (by omega)]
  | f + 1, g + 1, n, hf, hg => by
    simp only [decD]
    by_cases h : n ≤ 9
    · rw [if_pos h, if_pos h]
    · rw [if_neg h, if_neg h, decD_fuel f g (n / 10) (by rw [Nat.pow_succ] at hf; omega) (by rw [Nat.pow_succ] at hg; omega)]
theorem decDigs_small {n : Nat} (h : n ≤ 9) : decDigs n = [48 + (n : Int)] := by
  unfold decDigs
  simp only [decD]
  rw [if_pos h, Nat.mod_eq_of_lt (by omega)]
theorem ten20 : maxU < 10 ^ (19 + 1) := by decide
theorem ten21 : 10 ^ (20 + 1) = 10 * 10 ^ (19 + 1) := by decide
theorem decDigs_19 {n : Nat} (hn : n ≤ maxU) : decDigs n = decD 19 n := by
  unfold decDigs
  have h1 := ten20
  have h2 := ten21
  exact decD_fuel 20 19 n (by omega) (by omega)
theorem decDigs_step {n : Nat} (h : 9 < n) (hn : n ≤ maxU) : decDigs n = decDigs (n / 10) ++ [48 + ((n % 10 : Nat) : Int)] := by
  rw [decDigs_19 (show n / 10 ≤ maxU by omega)]
  unfold decDigs
  rw [show decD 20 n = if n ≤ 9 then [48 + ((n % 10 : Nat) : Int)] else decD 19 (n / 10) ++ [48 + ((n % 10 : Nat) : Int)] from rfl]
  rw [if_neg (by omega)]
theorem decD_length : ∀ (f n : Nat), 1 ≤ (decD f n).length ∧ (decD f n).length ≤ f + 1
  | 0, n => by simp [decD]
  | f + 1, n => by
    simp only [decD]
    split
    · simp
    · have := decD_length f (n / 10)
      simp
      omega
section
variable {n : Nat} (hn : n ≤ maxU)
include hn
theorem decDigs_length : 1 ≤ (decDigs n).length ∧ (decDigs n).length ≤ 20 := by
  rw [decDigs_19 hn]
  exact decD_length 19 n
end
end Go.Proofs.YtiknhkkeifemcaaGreatDoor
