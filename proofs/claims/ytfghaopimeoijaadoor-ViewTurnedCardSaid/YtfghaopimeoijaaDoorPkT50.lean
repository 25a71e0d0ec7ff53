/-
  The law's turn, as deep as may be: of a value in memory it hands back some value. Conditions: those that each theorem names.
-/
import Derived.Test.YtfghaopimeoijaaDoorPkT39
import Derived.Test.YtfghaopimeoijaaDoorPkT44
import Derived.Test.YtfghaopimeoijaaDoorPkT45
import Derived.Test.YtfghaopimeoijaaDoorPkT46
import Derived.Test.YtfghaopimeoijaaDoorPkT47
import Derived.Test.YtfghaopimeoijaaDoorPkT48
namespace Go.Proofs.YtfghaopimeoijaaDoor
open Go.ChangeShapes Go.WideShapes Go.ChangeAt Go.RowKit Go.Shelf

theorem vturn_leaf (d what : Nat) (n : Nat) (hwb : what ≤ 255) (hn : (n : Int) ≤ 18446744073709551615) (hd : d ≤ 1000) (S : Nat → Bool) (w : World) (v : PV) (val : Value) (a : Option Addr) (ys : List Int) (cap : Nat) (hv : VH S w v val) (hS : ∀ k, w.heap.size ≤ k → S k = false) (hsm : SmallV v) (hyl : (ys.length : Int) ≤ 9223372036854775807) (hgo : decide (0 < ys.length) = false ∨ (decide (0 < ys.length) = true ∧ decide (0 < v.kids.length) = false) ∨ (decide (0 < ys.length) = true ∧ decide (0 < v.kids.length) = true ∧ decide (0 < d) = false)) :
    Calls Tryd.prog 17 #[val, .slice a ys.length cap, .int .u8 what, .int .u64 n, .int .i64 d] w (TurnPost S w) := by
  have h6 : what % 6 = 0 ∨ what % 6 = 1 ∨ what % 6 = 2 ∨ what % 6 = 3 ∨ what % 6 = 4 ∨ what % 6 = 5 := by omega
  rcases h6 with h | h | h | h | h | h
  · exact vturn_0 d what n h hwb hn hd S w v val a ys cap hv hS hsm hyl hgo
  · exact vturn_1 d what n h hwb hn hd S w v val a ys cap hv hS hsm hyl hgo
  · exact vturn_2 d what n h hwb hn hd S w v val a ys cap hv hS hsm hyl hgo
  · exact vturn_3 d what n h hwb hn hd S w v val a ys cap hv hS hsm hyl hgo
  · exact vturn_4 d what n h hwb hn hd S w v val a ys cap hv hS hsm hyl hgo
  · exact vturn_5 d what n h hwb hn hd S w v val a ys cap hv hS hsm hyl hgo
theorem vturn_step (d : Nat) (hd : d ≤ 1000) (hnx : ∀ q, d = q + 1 → TurnAt q) : TurnAt d := by
  intro what n S w v val a ys cap hwb hn hv hS hsm hyb hyc hcm
  have hyl : (ys.length : Int) ≤ 9223372036854775807 := by omega
  by_cases hy0 : 0 < ys.length
  · by_cases hk0 : 0 < v.kids.length
    · by_cases hd0 : 0 < d
      · obtain ⟨q, hq⟩ : ∃ q, d = q + 1 := ⟨d - 1, by omega⟩
        exact vturn_rec d q what n hq hwb hn hd S w v val a ys cap hv hS hsm hyb hyc hcm hy0 hk0 (hnx q hq)
      · exact vturn_leaf d what n hwb hn hd S w v val a ys cap hv hS hsm hyl (.inr (.inr ⟨decide_eq_true hy0, decide_eq_true hk0, decide_eq_false hd0⟩))
    · exact vturn_leaf d what n hwb hn hd S w v val a ys cap hv hS hsm hyl (.inr (.inl ⟨decide_eq_true hy0, decide_eq_false hk0⟩))
  · exact vturn_leaf d what n hwb hn hd S w v val a ys cap hv hS hsm hyl (.inl (decide_eq_false hy0))
theorem vturn_any : ∀ d, d ≤ 1000 → TurnAt d
  | 0, h => vturn_step 0 h (fun q hq => by cases hq)
  | m + 1, h => vturn_step (m + 1) h (fun q hq => by injection hq with hq; exact hq ▸ vturn_any m (by omega))
end Go.Proofs.YtfghaopimeoijaaDoor
