/-
  What a region that draws its order may use: a contract that leaves the world as it was; the string of no bytes. Conditions: those that each theorem names.
-/
import Derived.WalkKit
import Derived.BigQuiet
import Derived.Laws.BytesArg
import Derived.Below
namespace Go.Proofs.YtjeoekggdohhiaaDoor
open Go.RowKit
def isDig (c : Int) : Bool := decide (48 ≤ c ∧ c ≤ 57)
def isC (x : Int) (c : Int) : Bool := decide (c = x)
def stA (zs : List Int) (p : Int → Bool) (i : Nat) : Bool := decide (i < zs.length) && p (zs.getD i 0)
/-! ### blanks and remarks -/
/-! ### numbers, quoted texts, a token -/
def begins (zs : List Int) (i : Nat) : Bool := stA zs isDig i || (stA zs (isC 45) i && stA zs isDig (i + 1))
section
variable {ok : List Int → Bool} {sg : Int → Bool} {zs : List Int} {i : Nat}
end
end Go.Proofs.YtjeoekggdohhiaaDoor
namespace Go.Proofs.YtjeoekggdohhiaaDoor
open Go.RowKit
theorem conv_zero {P : Program} (w : World) (src e dst : TypeId) (hs : P.underlying src = some (.slice e)) (he : P.underlying e = some (.int .u8)) (hd : P.underlying dst = some .string) (a : Option Addr) (c : Nat) :
    (convert src dst (.slice a 0 c)).run P w = .ok (.string (strOfNums [])) w := by
  rw [run_convert_bytes_string w src dst e a 0 c hs he hd]
  cases a with
  | none => simp [Conv.bytesToString]; rfl
  | some x =>
    have hl : (loadCells x 0).run P w = .ok (([] : List Int).map (Value.int .u8)).toArray w := run_loadCells_list (P := P) w x [] (fun j v hj => by simp at hj)
    rw [run_bytesToString w x 0 c [] hl]
    simp [strOfNums]
    rfl
end Go.Proofs.YtjeoekggdohhiaaDoor
