/-
  Rows of numbers of the call's own; the document's SameInts. Conditions: those that each theorem names.
-/
import Derived.Test.YtcbkdohahfjbfaaDoorRws
import Derived.Test.YtcbkdohahfjbfaaDoorQuiet
import Derived.BigQuiet
namespace Go.Proofs.YtcbkdohahfjbfaaDoor
open Go.ChangeShapes Go.WideShapes Go.ChangeAt Go.RowKit Go.Shelf

def i64Cell (z : Int) : List Value := [.int .i64 z]
def i64Cells (l : List Int) : List Value := l.flatMap i64Cell
theorem i64Cells_snoc (l : List Int) (z : Int) : i64Cells (l ++ [z]) = i64Cells l ++ [.int .i64 z] := by simp [i64Cells, i64Cell]
theorem i64Cells_map (l : List Int) : i64Cells l = l.map (Value.int .i64) := by
  induction l with
  | nil => rfl
  | cons a r ih => rw [List.map_cons, ← ih]; rfl
theorem i64Cells_length (l : List Int) : (i64Cells l).length = l.length := by rw [i64Cells_map, List.length_map]
/-- A row of numbers, cell by cell. -/
theorem row_i64 {w : World} {base : Nat} {v : Value} {l : List Int} (h : w.ownsRow base 3 1 v l.length (i64Cells l)) (k : Nat) (hk : k < l.length) :
    ∃ g c, v = .slice (some ⟨g, 0, none⟩) l.length c ∧ l.length ≤ c ∧ g < w.heap.size ∧ w.cell? ⟨g, k, none⟩ = some (.int .i64 l[k]) := by
  obtain ⟨g, c, hv, hc, hg, hcell⟩ := row_el i64Cell 1 (fun _ => rfl) h k hk
  have h0 := hcell 0 (by omega)
  rw [Nat.mul_one, Nat.add_zero] at h0
  exact ⟨g, c, hv, hc, hg, h0⟩
theorem take_same {α : Type} {a b : List α} {k : Nat} (hk : k < a.length) (hk2 : k < b.length) (h : a.take k = b.take k) (he : a[k] = b[k]) : a.take (k + 1) = b.take (k + 1) := by
  rw [List.take_succ_eq_append_getElem hk, List.take_succ_eq_append_getElem hk2, h, he]
set_option maxRecDepth 100000 in
theorem sameInts_any (a b : List Int) (v u : Value) (b1 b2 : Nat) (w : World) (hv : w.ownsRow b1 3 1 v a.length (i64Cells a)) (hu : w.ownsRow b2 3 1 u b.length (i64Cells b)) :
    Calls Tryd.prog 15 #[v, u] w fun e w' => e = .returned (.bool (decide (a = b))) ∧ Below w.heap.size w w' := by
  obtain ⟨va, vc, rfl⟩ := ownsRow_form hv
  obtain ⟨ua, uc, rfl⟩ := ownsRow_form hu
  have hf1 := row_few hv
  have hf2 := row_few hu
  by_cases hl : a.length = b.length
  · have HV := Lib.hid hv
    have HU := Lib.hid hu
    have HL := Lib.hid hl
    have t1 : ((a.length : Int) != (b.length : Int)) = false := by simp; omega
    clear hv hu hl
    go_enter Tryd.func15, Tryd.ntmps15
    go_wp2
    go_loopw [5] (fun i wr => ∃ k : Nat, k ≤ a.length ∧ i = .int .i64 k ∧ Below w.heap.size w wr ∧ a.take k = b.take k) (fun i _ => a.length - (intOf i).toNat)
    case atStart => exact ⟨0, Nat.zero_le _, rfl, Below.refl _ _, rfl⟩
    case round =>
      obtain ⟨k, hk, rfl, hb, ha⟩ := hrel
      have HB := Lib.hid hb
      have HA := Lib.hid ha
      by_cases hkl : k < a.length
      · have hkb : k < b.length := by have := HL.out; omega
        obtain ⟨g1, c1, h1, _, _, x1⟩ := row_i64 (row_keep hb HV.out) k hkl
        obtain ⟨g2, c2, h2, _, _, x2⟩ := row_i64 (row_keep hb HU.out) k hkb
        obtain ⟨rfl, rfl⟩ := slice_inj h1
        obtain ⟨rfl, rfl⟩ := slice_inj h2
        have HT := Lib.hid (fun e => take_same hkl hkb HA.out e)
        have HN : Hid (a[k] ≠ b[k] → ¬ a = b) := Lib.hid (fun hne e => hne (by subst e; rfl))
        have hki : (k : Int) < a.length := by omega
        have hkj : (k : Int) < b.length := by omega
        generalize a[k] = p at *
        generalize b[k] = q at *
        clear h1 h2 hb ha
        by_cases hpq : p = q
        · have t2 : (p != q) = false := by simpa using hpq
          have HT2 := Lib.hid (HT.out hpq)
          clear HT HN hpq
          go_wp2_with fail
          go_quiet (fail)
          go_wp2
          go_roundw
          case rel => exact ⟨k + 1, by omega, by go_num, bel_drewN HB.out _, HT2.out⟩
          case measure => simp [intOf]; omega
        · have t2 : (p != q) = true := by simpa using hpq
          have HT2 := Lib.hid (HN.out hpq)
          clear HT HN hpq
          go_wp2_with fail
          go_quiet (fail)
          go_wp2
          go_ret
          exact ⟨ret_bool (decide_eq_false HT2.out).symm, bel_drewN HB.out _⟩
      · obtain rfl : k = a.length := by omega
        have HE : Hid (a = b) := Lib.hid (by have h := HA.out; rw [List.take_length, HL.out, List.take_length] at h; exact h)
        clear hb ha
        go_wp2
        go_ret
        exact ⟨ret_bool (decide_eq_true HE.out).symm, HB.out⟩
  · have t1 : ((a.length : Int) != (b.length : Int)) = true := by simp; omega
    have HE : Hid (¬ a = b) := Lib.hid (fun e => hl (by rw [e]))
    clear hl hv hu
    go_enter Tryd.func15, Tryd.ntmps15
    go_wp2
    go_ret
    exact ⟨ret_bool (decide_eq_false HE.out).symm, Below.refl _ _⟩
end Go.Proofs.YtcbkdohahfjbfaaDoor
