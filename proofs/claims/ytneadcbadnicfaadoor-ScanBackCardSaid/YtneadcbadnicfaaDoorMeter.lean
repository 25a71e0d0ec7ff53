/-
  What a meter of the package wire does: New makes it, Take takes so many steps, Left tells of it; a nil meter. Conditions: those that each theorem names.
-/
import Derived.Test.YtneadcbadnicfaaDoorWireN
namespace Go.Proofs.YtneadcbadnicfaaDoor
open Go.ChangeShapes Go.WideShapes Go.ChangeAt Go.RowKit

/-- A meter in memory: so many steps are left; more was asked for. -/
def IsMeter (w : World) (b : Nat) (left : Int) (out : Bool) : Prop :=
  w.cell? ⟨b, 0, none⟩ = some (.int .i64 left) ∧ w.cell? ⟨b, 1, none⟩ = some (.bool out) ∧ w.frozen? ⟨b, 0, none⟩ = false ∧ w.frozen? ⟨b, 1, none⟩ = false
def atLeast0 (n : Int) : Int := if 0 ≤ n then n else 0
theorem new_any (n : Int) (w : World) :
    Calls Tryd.prog 31 #[.int .i64 n] w fun e w' => e = .returned (.pointer (some ⟨w.heap.size, 0, none⟩)) ∧ w' = w.alloc (.cells #[.int .i64 (atLeast0 n), .bool false] 74) := by
  by_cases h : 0 ≤ n
  · rw [show atLeast0 n = n from if_pos h]
    go_enter Tryd.func31, Tryd.ntmps31
    go_wp2
    go_ret
    first | exact ⟨rfl, rfl⟩ | (rw [show max n 0 = n by omega]; exact ⟨rfl, rfl⟩) | (rw [show max n 0 = 0 by omega]; exact ⟨rfl, rfl⟩)
  · rw [show atLeast0 n = 0 from if_neg h]
    go_enter Tryd.func31, Tryd.ntmps31
    go_wp2
    go_ret
    first | exact ⟨rfl, rfl⟩ | (rw [show max n 0 = n by omega]; exact ⟨rfl, rfl⟩) | (rw [show max n 0 = 0 by omega]; exact ⟨rfl, rfl⟩)
theorem take_yes (b : Nat) (left n : Int) (w : World) (hm : IsMeter w b left false) (h0 : 0 ≤ n) (h1 : n ≤ left) (h2 : left ≤ 9223372036854775807) :
    Calls Tryd.prog 55 #[.pointer (some ⟨b, 0, none⟩), .int .i64 n] w fun e w' => e = .returned (.bool true) ∧ w' = w.setCell ⟨b, 0, none⟩ (.int .i64 (left - n)) := by
  obtain ⟨c0, c1, f0, f1⟩ := hm
  go_enter Tryd.func55, Tryd.ntmps55
  go_wp2
  go_ret
  exact ⟨rfl, rfl⟩
theorem take_over (b : Nat) (left n : Int) (w : World) (hm : IsMeter w b left false) (h0 : 0 ≤ n) (h1 : left < n) :
    Calls Tryd.prog 55 #[.pointer (some ⟨b, 0, none⟩), .int .i64 n] w fun e w' => e = .returned (.bool false) ∧ w' = (w.setCell ⟨b, 0, none⟩ (.int .i64 0)).setCell ⟨b, 1, none⟩ (.bool true) := by
  obtain ⟨c0, c1, f0, f1⟩ := hm
  go_enter Tryd.func55, Tryd.ntmps55
  go_wp2
  go_ret
  exact ⟨rfl, rfl⟩
theorem take_no (b : Nat) (left n : Int) (out : Bool) (w : World) (hm : IsMeter w b left out) (h : out = true ∨ n < 0) :
    Calls Tryd.prog 55 #[.pointer (some ⟨b, 0, none⟩), .int .i64 n] w fun e w' => e = .returned (.bool false) ∧ w = w' := by
  obtain ⟨c0, c1, f0, f1⟩ := hm
  cases out
  · have h0 : n < 0 := by simpa using h
    clear h
    go_enter Tryd.func55, Tryd.ntmps55
    go_wp2
    go_ret
    exact ⟨rfl, rfl⟩
  · clear h
    go_enter Tryd.func55, Tryd.ntmps55
    go_wp2
    go_ret
    exact ⟨rfl, rfl⟩
theorem take_nil (n : Int) (w : World) :
    Calls Tryd.prog 55 #[.pointer none, .int .i64 n] w fun e w' => e = .returned (.bool false) ∧ w = w' := by
  go_enter Tryd.func55, Tryd.ntmps55
  go_wp2
  go_ret
  exact ⟨rfl, rfl⟩
end Go.Proofs.YtneadcbadnicfaaDoor
