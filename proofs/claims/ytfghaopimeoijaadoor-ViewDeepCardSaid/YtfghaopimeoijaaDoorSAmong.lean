/-
  The package schema's among. Conditions: those that each theorem names.
-/
import Derived.Test.YtfghaopimeoijaaDoorHandB
namespace Go.Proofs.YtfghaopimeoijaaDoor
open Go.ChangeShapes Go.WideShapes Go.ChangeAt Go.RowKit Go.Shelf

theorem samong_any (a b : Int) (c : Bool) (hc : decide (0 ≤ a ∧ a < b) = c) (w : World) : Calls Tryd.prog 51 #[.int .i64 a, .int .i64 b] w fun e w' => e = .returned (.bool c) ∧ w = w' := by
  by_cases h0 : 0 ≤ a
  · by_cases h1 : a < b
    · obtain rfl : c = true := by rw [← hc]; exact decide_eq_true ⟨h0, h1⟩
      clear hc
      go_enter Tryd.func51, Tryd.ntmps51
      go_wp2
      go_ret
      exact ⟨rfl, rfl⟩
    · obtain rfl : c = false := by rw [← hc]; exact decide_eq_false fun h => h1 h.2
      clear hc
      go_enter Tryd.func51, Tryd.ntmps51
      go_wp2
      go_ret
      exact ⟨rfl, rfl⟩
  · have hf : c = false := by rw [← hc]; exact decide_eq_false fun h => h0 h.1
    subst hf
    clear hc
    go_enter Tryd.func51, Tryd.ntmps51
    go_wp2
    go_ret
    exact ⟨rfl, rfl⟩
end Go.Proofs.YtfghaopimeoijaaDoor
