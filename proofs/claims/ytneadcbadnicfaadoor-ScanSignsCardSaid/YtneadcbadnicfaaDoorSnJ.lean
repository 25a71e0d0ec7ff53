/-
  The package scan's New, and the law's open: a scanner in new memory, with a meter that is enough. Conditions: those that each theorem names.
-/
import Derived.Test.YtneadcbadnicfaaDoorSnH
import Derived.Test.YtneadcbadnicfaaDoorSnI
namespace Go.Proofs.YtneadcbadnicfaaDoor
open Go.ChangeShapes Go.WideShapes Go.ChangeAt Go.RowKit Go.Shelf

/-- A place, at least 0 and at most n. -/
def clampZ (x : Int) (n : Nat) : Nat := if x < 0 then 0 else if x ≤ n then x.toNat else n
theorem clampZ_le (x : Int) (n : Nat) : clampZ x n ≤ n := by
  unfold clampZ
  split
  · omega
  split <;> omega
theorem clamp_min (x : Int) (n : Nat) : min (max x 0) (n : Int) = (clampZ x n : Nat) := by
  unfold clampZ
  split
  · rw [show max x 0 = 0 by omega]; omega
  split
  · rw [show max x 0 = x by omega]; omega
  · rw [show max x 0 = x by omega]; omega
theorem snew_any (p : Option Addr) (n cap mb : Nat) (x : Int) (w : World) (hn : n ≤ 1000000) :
    Calls Tryd.prog 30 #[.slice p n cap, .int .i64 x, .pointer (some ⟨mb, 0, none⟩)] w fun e w' => e = .returned (.pointer (some ⟨w.heap.size, 0, none⟩)) ∧ w' = w.alloc (.cells #[.slice p n cap, .int .i64 (clampZ x n : Nat), .pointer (some ⟨mb, 0, none⟩)] 69) := by
  have E := Lib.hid (clamp_min x n)
  generalize clampZ x n = c at E ⊢
  by_cases h0 : x < 0
  · have hc : c = 0 := by have := E.out; omega
    subst hc
    clear E
    go_enter Tryd.func30, Tryd.ntmps30
    go_wp2
    go_ret
    exact ⟨rfl, by first | rfl | (congr 3; simp; omega)⟩
  · by_cases h1 : x ≤ n
    · have hc : x = (c : Int) := by have := E.out; omega
      subst hc
      clear E
      go_enter Tryd.func30, Tryd.ntmps30
      go_wp2
      go_ret
      exact ⟨rfl, by first | rfl | (congr 3; simp; omega)⟩
    · have hc : n = c := by have := E.out; omega
      subst hc
      clear E
      go_enter Tryd.func30, Tryd.ntmps30
      go_wp2
      go_ret
      exact ⟨rfl, by first | rfl | (congr 3; simp; omega)⟩
end Go.Proofs.YtneadcbadnicfaaDoor
