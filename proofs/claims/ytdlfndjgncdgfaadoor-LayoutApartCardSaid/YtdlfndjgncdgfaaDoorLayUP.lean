/-
  A text's runes, and its units in UTF-16, plain. No run of the program stands in this text. Conditions: those that each theorem names.
-/
import Derived.Test.YtdlfndjgncdgfaaDoorLayInts
import Derived.Lib.OthersKept
import Derived.Laws.RangeAny
import Derived.Lib.TrimU
namespace Go.Proofs.YtdlfndjgncdgfaaDoor
open Go.ChangeShapes Go.WideShapes Go.ChangeAt Go.RowKit Go.Shelf

/-- The runes that a range over a text hands over, from a place on. -/
def runesL (s : ByteArray) : Nat → Nat → List Int
  | 0, _ => []
  | f + 1, pos => if pos < s.size then ((Utf8.decode s pos).1 : Int) :: runesL s f (pos + (Utf8.decode s pos).2) else []
def runesP (s : ByteArray) : List Int := runesL s s.size 0
/-- A rune's units. -/
def unitR (c : Int) : List Int := if c < 65536 then [c] else [55296 + (c - 65536) / 1024, 56320 + (c - 65536) % 1024]
def unitsP (s : ByteArray) : List Int := (runesP s).flatMap unitR
def farP (l : List Int) : Nat := (l.filter fun c => decide (65535 < c)).length
theorem width_pos (s : ByteArray) (pos : Nat) (h : pos < s.size) : 1 ≤ (Utf8.decode s pos).2 := by
  by_cases ha : (s[pos]'h).toNat < 128
  · rw [decode_ascii s pos h ha]
    exact Nat.le_refl _
  · exact (decode_high s pos h (by omega)).2
theorem runesL_end (s : ByteArray) (f pos : Nat) (h : ¬ pos < s.size) : runesL s f pos = [] := by
  cases f with
  | zero => rfl
  | succ f => simp [runesL, h]
theorem runesL_step (s : ByteArray) (f pos : Nat) (h : pos < s.size) : runesL s (f + 1) pos = ((Utf8.decode s pos).1 : Int) :: runesL s f (pos + (Utf8.decode s pos).2) := by
  simp [runesL, h]
theorem unitR_le (c : Int) : (unitR c).length ≤ 2 := by
  unfold unitR
  split <;> simp
theorem unitR_small (c : Int) (h : c < 65536) : unitR c = [c] := if_pos h
theorem unitR_great (c : Int) (h : ¬ c < 65536) : unitR c = [55296 + (c - 65536) / 1024, 56320 + (c - 65536) % 1024] := if_neg h
theorem units_count (l : List Int) : (l.flatMap unitR).length = l.length + farP l := by
  induction l with
  | nil => rfl
  | cons c r ih =>
    rw [List.flatMap_cons, List.length_append, ih]
    unfold farP
    by_cases h : c < 65536
    · rw [unitR_small c h, List.filter_cons_of_neg (by simp; omega)]
      simp only [List.length_cons, List.length_nil]
      omega
    · rw [unitR_great c h, List.filter_cons_of_pos (by simp; omega)]
      simp only [List.length_cons, List.length_nil]
      omega
theorem farP_snoc (l : List Int) (c : Int) : farP (l ++ [c]) = farP l + if 65535 < c then 1 else 0 := by
  unfold farP
  rw [List.filter_append, List.length_append]
  by_cases h : 65535 < c
  · rw [List.filter_cons_of_pos (by simpa using h), if_pos h]
    rfl
  · rw [List.filter_cons_of_neg (by simpa using h), if_neg h]
    rfl
def u16s (l : List Int) : List Value := l.map (Value.int .u16)
theorem u16s_append (a b : List Int) : u16s (a ++ b) = u16s a ++ u16s b := List.map_append
end Go.Proofs.YtdlfndjgncdgfaaDoor
