/-
  What wire.Part hands back, by a walk of its text. Conditions: those that each theorem names.
-/
import Derived.Test.YtneadcbadnicfaaDoorWireN
namespace Go.Proofs.YtneadcbadnicfaaDoor
open Go.ChangeShapes Go.WideShapes Go.ChangeAt Go.RowKit

/-- What Part hands back where the bytes are there: n bytes from a place on, without room behind. -/
def PartIs (g off a n : Nat) (e : Ending) : Prop := ∃ o, e = .returned (.tuple #[.slice (some ⟨g, o, none⟩) n n, .bool true]) ∧ (0 < n → o = off + a)
theorem ret_part {g o m m' : Nat} (h : m = m') : Ending.returned (.tuple #[.slice (some ⟨g, o, none⟩) m m, .bool true]) = .returned (.tuple #[.slice (some ⟨g, o, none⟩) m' m', .bool true]) := by rw [h]
theorem part_yes (g off len cap : Nat) (a n : Int) (w : World) (hl : (len : Int) ≤ 9223372036854775807) (hcap : len ≤ cap) (h0 : 0 ≤ a) (h1 : 0 ≤ n) (h2 : a ≤ len) (h3 : n ≤ len - a) :
    Calls Tryd.prog 38 #[.slice (some ⟨g, off, none⟩) len cap, .int .i64 a, .int .i64 n] w fun e w' => PartIs g off a.toNat n.toNat e ∧ w = w' := by
  have e1 : (a + n).toNat - a.toNat = n.toNat := by omega
  have E := Lib.hid e1
  clear e1
  go_enter Tryd.func38, Tryd.ntmps38
  go_wp2_with (go_at_call 54; refine (next_yes a n len _ h0 h1 h2 h3 hl).mono ?_; rintro e w' ⟨rfl, rfl⟩)
  · go_ret2
    exact ⟨⟨_, ret_part (show 0 = n.toNat by omega), fun hn => by omega⟩, rfl⟩
  · go_ret2
    exact ⟨⟨_, ret_part E.out, fun _ => rfl⟩, rfl⟩
theorem part_no (p : Option Addr) (len cap : Nat) (a n : Int) (w : World) (hl : (len : Int) ≤ 9223372036854775807) (h : a < 0 ∨ n < 0 ∨ (len : Int) < a ∨ len - a < n) :
    Calls Tryd.prog 38 #[.slice p len cap, .int .i64 a, .int .i64 n] w fun e w' => e = .returned (.tuple #[.slice none 0 0, .bool false]) ∧ w = w' := by
  go_enter Tryd.func38, Tryd.ntmps38
  go_wp2_with (go_at_call 54; refine (next_no a n len _ h hl).mono ?_; rintro e w' ⟨rfl, rfl⟩)
  go_ret2
  exact ⟨rfl, rfl⟩
end Go.Proofs.YtneadcbadnicfaaDoor
