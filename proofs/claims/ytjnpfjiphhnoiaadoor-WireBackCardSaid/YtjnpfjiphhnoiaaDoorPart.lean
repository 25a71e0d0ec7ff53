/-
  What wire.Part and the document's own Within and Sized hand back, each by a walk of its text. Conditions: those that each theorem names.
-/
import Derived.Test.YtjnpfjiphhnoiaaDoorWire
namespace Go.Proofs.YtjnpfjiphhnoiaaDoor
open Go.ChangeShapes Go.WideShapes Go.ChangeAt Go.RowKit

/-- What Part hands back where the bytes are there: n bytes from a place on, without room behind. -/
def PartIs (g off a n : Nat) (e : Ending) : Prop := ∃ o, e = .returned (.tuple #[.slice (some ⟨g, o, none⟩) n n, .bool true]) ∧ (0 < n → o = off + a)
theorem ret_part {g o m m' : Nat} (h : m = m') : Ending.returned (.tuple #[.slice (some ⟨g, o, none⟩) m m, .bool true]) = .returned (.tuple #[.slice (some ⟨g, o, none⟩) m' m', .bool true]) := by rw [h]
theorem part_yes (g off len cap : Nat) (a n : Int) (w : World) (hl : (len : Int) ≤ 9223372036854775807) (hcap : len ≤ cap) (h0 : 0 ≤ a) (h1 : 0 ≤ n) (h2 : a ≤ len) (h3 : n ≤ len - a) :
    Calls Tryd.prog 23 #[.slice (some ⟨g, off, none⟩) len cap, .int .i64 a, .int .i64 n] w fun e w' => PartIs g off a.toNat n.toNat e ∧ w = w' := by
  have e1 : (a + n).toNat - a.toNat = n.toNat := by omega
  have E := Lib.hid e1
  clear e1
  go_enter Tryd.func23, Tryd.ntmps23
  go_wp2_with (go_at_call 24; refine (next_yes a n len _ h0 h1 h2 h3 hl).mono ?_; rintro e w' ⟨rfl, rfl⟩)
  · go_ret2
    exact ⟨⟨_, ret_part (show 0 = n.toNat by omega), fun hn => by omega⟩, rfl⟩
  · go_ret2
    exact ⟨⟨_, ret_part E.out, fun _ => rfl⟩, rfl⟩
theorem part_no (p : Option Addr) (len cap : Nat) (a n : Int) (w : World) (hl : (len : Int) ≤ 9223372036854775807) (h : a < 0 ∨ n < 0 ∨ (len : Int) < a ∨ len - a < n) :
    Calls Tryd.prog 23 #[.slice p len cap, .int .i64 a, .int .i64 n] w fun e w' => e = .returned (.tuple #[.slice none 0 0, .bool false]) ∧ w = w' := by
  go_enter Tryd.func23, Tryd.ntmps23
  go_wp2_with (go_at_call 24; refine (next_no a n len _ h hl).mono ?_; rintro e w' ⟨rfl, rfl⟩)
  go_ret2
  exact ⟨rfl, rfl⟩
theorem rwithin_yes (l a n : Int) (w : World) (hl : l ≤ 9223372036854775807) (h0 : 0 ≤ a) (h1 : 0 ≤ n) (h3 : n ≤ l - a) :
    Calls Tryd.prog 16 #[.int .i64 l, .int .i64 a, .int .i64 n] w fun e w' => e = .returned (.bool true) ∧ w = w' := by
  have t1 : n ≤ l := by omega
  have t2 : a ≤ l - n := by omega
  go_enter Tryd.func16, Tryd.ntmps16
  go_wp2
  go_ret
  exact ⟨rfl, rfl⟩
theorem rwithin_no (l a n : Int) (w : World) (hl0 : 0 ≤ l) (hl : l ≤ 9223372036854775807) (h : a < 0 ∨ n < 0 ∨ l < a ∨ l - a < n) :
    Calls Tryd.prog 16 #[.int .i64 l, .int .i64 a, .int .i64 n] w fun e w' => e = .returned (.bool false) ∧ w = w' := by
  by_cases h0 : a < 0
  · clear h
    go_enter Tryd.func16, Tryd.ntmps16
    go_wp2
    go_ret
    exact ⟨rfl, rfl⟩
  by_cases h1 : n < 0
  · clear h
    go_enter Tryd.func16, Tryd.ntmps16
    go_wp2
    go_ret
    exact ⟨rfl, rfl⟩
  by_cases h2 : l < n
  · clear h
    go_enter Tryd.func16, Tryd.ntmps16
    go_wp2
    go_ret
    exact ⟨rfl, rfl⟩
  have h3 : decide (a ≤ l - n) = false := by simp; omega
  clear h
  go_enter Tryd.func16, Tryd.ntmps16
  go_wp2
  go_ret
  exact ⟨rfl, rfl⟩
theorem ret_bool {a b : Bool} (h : a = b) : Ending.returned (.bool a) = .returned (.bool b) := by rw [h]
theorem rsized_yes (n : Int) (w : World) (h : n = 1 ∨ n = 2 ∨ n = 4 ∨ n = 8) :
    Calls Tryd.prog 15 #[.int .i64 n] w fun e w' => e = .returned (.bool true) ∧ w = w' := by
  rcases h with rfl | rfl | rfl | rfl
  all_goals
    go_enter Tryd.func15, Tryd.ntmps15
    go_wp2
    go_ret
    exact ⟨ret_bool (by kernel_rfl), rfl⟩
theorem rsized_no (n : Int) (w : World) (h : ¬ (n = 1 ∨ n = 2 ∨ n = 4 ∨ n = 8)) :
    Calls Tryd.prog 15 #[.int .i64 n] w fun e w' => e = .returned (.bool false) ∧ w = w' := by
  by_cases h0 : n ≤ 0
  · clear h
    go_enter Tryd.func15, Tryd.ntmps15
    go_wp2
    go_ret
    exact ⟨rfl, rfl⟩
  by_cases h8 : 8 < n
  · clear h
    go_enter Tryd.func15, Tryd.ntmps15
    go_wp2
    go_ret
    exact ⟨rfl, rfl⟩
  have h' : n = 3 ∨ n = 5 ∨ n = 6 ∨ n = 7 := by omega
  clear h h0 h8
  rcases h' with rfl | rfl | rfl | rfl
  all_goals
    go_enter Tryd.func15, Tryd.ntmps15
    go_wp2
    go_ret
    exact ⟨ret_bool (by kernel_rfl), rfl⟩
end Go.Proofs.YtjnpfjiphhnoiaaDoor
