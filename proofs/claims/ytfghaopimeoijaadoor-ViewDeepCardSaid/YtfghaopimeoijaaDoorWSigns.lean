/-
  What Sign of the package wire hands back, each by a walk of its text. Conditions: those that each theorem names.
-/
import Derived.Test.YtfghaopimeoijaaDoorWSize
namespace Go.Proofs.YtfghaopimeoijaaDoor
open Go.ChangeShapes Go.WideShapes Go.ChangeAt Go.RowKit

theorem wsign_any (n : Int) (w : World) :
    Calls Tryd.prog 52 #[.int .u8 n] w fun e w' => e = .returned (.bool (kSign n)) ∧ w = w' := by
  by_cases h1 : 2 ≤ n
  · by_cases h2 : n ≤ 5
    · rw [show kSign n = true from decide_eq_true ⟨h1, h2⟩]
      go_enter Tryd.func52, Tryd.ntmps52
      go_wp2
      go_ret
      exact ⟨rfl, rfl⟩
    · rw [show kSign n = false from decide_eq_false (fun h => h2 h.2)]
      go_enter Tryd.func52, Tryd.ntmps52
      go_wp2
      go_ret
      exact ⟨rfl, rfl⟩
  · rw [show kSign n = false from decide_eq_false (fun h => h1 h.1)]
    go_enter Tryd.func52, Tryd.ntmps52
    go_wp2
    go_ret
    exact ⟨rfl, rfl⟩
theorem wsign_still (n : Int) (w : World) : Calls Tryd.prog 52 #[.int .u8 n] w fun e w' => e = .returned (.bool (kSign n)) ∧ w' = w := (wsign_any n w).mono fun _ _ h => ⟨h.1, h.2.symm⟩
end Go.Proofs.YtfghaopimeoijaaDoor
