/-
  The document's own SameTokens at two slices of the same tokens: true. Conditions: those that each theorem names.
-/
import Derived.Test.YtfnopliggdemaaaDoorRefTokens
import Derived.Test.YtfnopliggdemaaaDoorPlacesWalk
import Derived.Test.YtfnopliggdemaaaDoorQuiet
namespace Go.Proofs.YtfnopliggdemaaaDoor
open Go.ChangeShapes Go.WideShapes Go.ChangeAt Go.RowKit Go.Shelf

theorem same_nil (v1 v2 : Value) (b1 b2 : Nat) (w : World) (h1 : OwnT w b1 v1 []) (h2 : OwnT w b2 v2 []) :
    Calls Tryd.prog 11 #[v1, v2] w fun e w' => e = .returned (.bool true) ∧ Below w.heap.size w w' := by
  obtain ⟨a1, c1, rfl⟩ := h1.form
  obtain ⟨a2, c2, rfl⟩ := h2.form
  clear h1 h2
  simp only [List.length_nil]
  go_enter Tryd.func11, Tryd.ntmps11
  go_wp2
  go_loopw [5] (fun i wr => wr = w ∧ i = .int .i64 0) (fun _ _ => 0)
  case atStart => exact ⟨rfl, rfl⟩
  case round =>
    obtain ⟨rfl, rfl⟩ := hrel
    go_wp2
    go_ret
    exact ⟨rfl, Below.refl _ _⟩
set_option maxHeartbeats 1600000 in
set_option maxRecDepth 100000 in
theorem same_any (l : List Tok) (v1 v2 : Value) (b1 b2 : Nat) (w : World) (h1 : OwnT w b1 v1 l) (h2 : OwnT w b2 v2 l) (hll : l.length ≤ 281474976710656) :
    Calls Tryd.prog 11 #[v1, v2] w fun e w' => e = .returned (.bool true) ∧ Below w.heap.size w w' := by
  by_cases hne : l = []
  · subst hne
    exact same_nil v1 v2 b1 b2 w h1 h2
  obtain ⟨g1, c1, rfl, hc1, _, hg1, hcell1⟩ := h1.cells hne
  obtain ⟨g2, c2, rfl, hc2, _, hg2, hcell2⟩ := h2.cells hne
  have HC1 := Lib.hid hcell1
  have HC2 := Lib.hid hcell2
  clear hcell1 hcell2 h1 h2 hne
  go_enter Tryd.func11, Tryd.ntmps11
  go_wp2
  go_loopw [5] (fun i wr => Below w.heap.size w wr ∧ ∃ k : Nat, k ≤ l.length ∧ i = .int .i64 k) (fun i _ => l.length - (intOf i).toNat)
  case atStart => exact ⟨Below.refl _ _, 0, Nat.zero_le _, rfl⟩
  case round =>
    obtain ⟨hb, k, hk, rfl⟩ := hrel
    have HQ := Lib.hid hb
    cases hd : l.drop k with
    | nil =>
      have hkl : k = l.length := by have := List.drop_eq_nil_iff.1 hd; omega
      subst hkl
      clear hd hb
      go_wp2
      go_ret
      exact ⟨rfl, HQ.out⟩
    | cons t q =>
      obtain ⟨hkl, x0, x1, x2⟩ := tok_cell HC1.out hg1 hb k t q hd
      obtain ⟨_, y0, y1, y2⟩ := tok_cell HC2.out hg2 hb k t q hd
      have hgq : g1 < wr.heap.size := Nat.lt_of_lt_of_le hg1 hb.size
      have hgq' : g2 < wr.heap.size := Nat.lt_of_lt_of_le hg2 hb.size
      clear hd hb
      go_upto_region 6 with (fail)
      go_quiet (fail)
      go_wp2
      go_roundw
      case rel => exact ⟨bel_drewN HQ.out nq, k + 1, hkl, by go_num⟩
      case measure => simp [intOf]; omega
end Go.Proofs.YtfnopliggdemaaaDoor
