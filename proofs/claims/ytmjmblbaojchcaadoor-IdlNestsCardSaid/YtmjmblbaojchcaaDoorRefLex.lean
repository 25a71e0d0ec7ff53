/-
  The document's own small functions on texts: a byte at a place, letters, digits. Conditions: those that each theorem names.
-/
import Derived.Test.YtmjmblbaojchcaaDoorAmong
namespace Go.Proofs.YtmjmblbaojchcaaDoor
open Go.ChangeShapes Go.WideShapes Go.ChangeAt Go.RowKit Go.Shelf

theorem bts_get {s : ByteArray} {i : Nat} (h : i < s.size) : (bts s).getD i 0 = (s[i].toNat : Int) := by
  simp [bts, List.getD, h]
  rfl
theorem bts_end {s : ByteArray} {i : Nat} (h : s.size ≤ i) : (bts s).getD i 0 = 0 := by
  rw [List.getD, List.getElem?_eq_none (by rw [bts_length]; exact h)]
  rfl
theorem at_any (s : ByteArray) (x : Int) (i : Nat) (w : World) (hx : x = i) :
    Calls Tryd.prog 64 #[.string s, .int .i64 x] w fun e w' => e = .returned (.int .u8 ((bts s).getD i 0)) ∧ w = w' := by
  subst hx
  by_cases hi : i < s.size
  · rw [bts_get hi]
    go_enter Tryd.func64, Tryd.ntmps64
    go_wp2
    go_ret
    exact ⟨rfl, rfl⟩
  · rw [bts_end (by omega)]
    go_enter Tryd.func64, Tryd.ntmps64
    go_wp2
    go_ret
    exact ⟨rfl, rfl⟩
theorem rdigit_any (c : Int) (w : World) : Calls Tryd.prog 66 #[.int .u8 c] w fun e w' => e = .returned (.bool (isDig c)) ∧ w = w' := by
  by_cases h1 : 48 ≤ c
  · by_cases h2 : c ≤ 57
    · have e : isDig c = true := decide_eq_true ⟨h1, h2⟩
      rw [e]
      clear e
      go_enter Tryd.func66, Tryd.ntmps66
      go_wp2
      go_ret
      exact ⟨rfl, rfl⟩
    · have e : isDig c = false := decide_eq_false (fun h => h2 h.2)
      rw [e]
      clear e
      go_enter Tryd.func66, Tryd.ntmps66
      go_wp2
      go_ret
      exact ⟨rfl, rfl⟩
  · have e : isDig c = false := decide_eq_false (fun h => h1 h.1)
    rw [e]
    clear e
    go_enter Tryd.func66, Tryd.ntmps66
    go_wp2
    go_ret
    exact ⟨rfl, rfl⟩
theorem rletter_any (c : Int) (w : World) : Calls Tryd.prog 65 #[.int .u8 c] w fun e w' => e = .returned (.bool (isLet c)) ∧ w = w' := by
  by_cases h0 : c = 95
  · subst h0
    go_enter Tryd.func65, Tryd.ntmps65
    go_wp2
    go_ret
    exact ⟨rfl, rfl⟩
  have t0 : (c == 95) = false := by simp [h0]
  by_cases h1 : 65 ≤ c
  · by_cases h2 : c ≤ 90
    · have e : isLet c = true := by unfold isLet; exact decide_eq_true (by omega)
      rw [e]
      clear e
      clear h0
      go_enter Tryd.func65, Tryd.ntmps65
      go_wp2
      go_ret
      exact ⟨rfl, rfl⟩
    · by_cases h3 : 97 ≤ c
      · by_cases h4 : c ≤ 122
        · have e : isLet c = true := by unfold isLet; exact decide_eq_true (by omega)
          rw [e]
          clear e
          clear h0
          go_enter Tryd.func65, Tryd.ntmps65
          go_wp2
          go_ret
          exact ⟨rfl, rfl⟩
        · have e : isLet c = false := by unfold isLet; exact decide_eq_false (by omega)
          rw [e]
          clear e
          clear h0
          go_enter Tryd.func65, Tryd.ntmps65
          go_wp2
          go_ret
          exact ⟨rfl, rfl⟩
      · have e : isLet c = false := by unfold isLet; exact decide_eq_false (by omega)
        rw [e]
        clear e
        clear h0
        go_enter Tryd.func65, Tryd.ntmps65
        go_wp2
        go_ret
        exact ⟨rfl, rfl⟩
  · have h3 : ¬ 97 ≤ c := by omega
    have e : isLet c = false := by unfold isLet; exact decide_eq_false (by omega)
    rw [e]
    clear e
    clear h0
    go_enter Tryd.func65, Tryd.ntmps65
    go_wp2
    go_ret
    exact ⟨rfl, rfl⟩
end Go.Proofs.YtmjmblbaojchcaaDoor
