/-
  What Sign of the package wire hands back, each by a walk of its text. Conditions: those that each theorem names.
-/
import Derived.Test.YtjeoekggdohhiaaDoorPkB5
namespace Go.Proofs.YtjeoekggdohhiaaDoor
open Go.ChangeShapes Go.WideShapes Go.ChangeAt Go.RowKit

theorem wsize_any (n : Int) (w : World) :
    Calls Tryd.prog 47 #[.int .u8 n] w fun e w' => e = .returned (.int .i64 (kSize n)) ∧ w = w' := by
  by_cases h : n < 1 ∨ 10 < n
  · have H := Lib.hid (kSize_else n h)
    have b1 : (n == 1) = false := by simp; omega
    have b2 : (n == 2) = false := by simp; omega
    have b3 : (n == 3) = false := by simp; omega
    have b4 : (n == 4) = false := by simp; omega
    have b5 : (n == 5) = false := by simp; omega
    have b6 : (n == 6) = false := by simp; omega
    have b7 : (n == 7) = false := by simp; omega
    have b8 : (n == 8) = false := by simp; omega
    have b9 : (n == 9) = false := by simp; omega
    have b10 : (n == 10) = false := by simp; omega
    clear h
    rw [H.out]
    go_enter Tryd.func47, Tryd.ntmps47
    go_wp2
    go_ret
    exact ⟨rfl, rfl⟩
  · have h' : n = 1 ∨ n = 2 ∨ n = 3 ∨ n = 4 ∨ n = 5 ∨ n = 6 ∨ n = 7 ∨ n = 8 ∨ n = 9 ∨ n = 10 := by omega
    clear h
    rcases h' with rfl | rfl | rfl | rfl | rfl | rfl | rfl | rfl | rfl | rfl
    all_goals
      go_enter Tryd.func47, Tryd.ntmps47
      go_wp2
      go_ret
      exact ⟨ret_int (by decide), rfl⟩
end Go.Proofs.YtjeoekggdohhiaaDoor
namespace Go.Proofs.YtjeoekggdohhiaaDoor
open Go.ChangeShapes Go.WideShapes Go.ChangeAt Go.RowKit

theorem wsign_any (n : Int) (w : World) :
    Calls Tryd.prog 52 #[.int .u8 n] w fun e w' => e = .returned (.bool (kSign n)) ∧ w = w' := by
  by_cases h1 : 2 ≤ n
  · by_cases h2 : n ≤ 5
    · rw [show kSign n = true from decide_eq_true ⟨h1, h2⟩]
      go_enter Tryd.func52, Tryd.ntmps52
      go_wp2
      go_ret
      exact ⟨rfl, rfl⟩
    · rw [show kSign n = false from decide_eq_false (fun h => h2 h.2)]
      go_enter Tryd.func52, Tryd.ntmps52
      go_wp2
      go_ret
      exact ⟨rfl, rfl⟩
  · rw [show kSign n = false from decide_eq_false (fun h => h1 h.1)]
    go_enter Tryd.func52, Tryd.ntmps52
    go_wp2
    go_ret
    exact ⟨rfl, rfl⟩
end Go.Proofs.YtjeoekggdohhiaaDoor
