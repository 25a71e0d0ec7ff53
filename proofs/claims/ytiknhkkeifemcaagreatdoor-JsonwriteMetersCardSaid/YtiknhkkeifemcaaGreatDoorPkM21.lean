/-
  What the hand's Made makes has such fields as the package view and the document's Value are told of. Conditions: those that each theorem names.
-/
import Derived.Test.YtiknhkkeifemcaaGreatDoorPkM11
import Derived.Test.YtiknhkkeifemcaaGreatDoorPkM19
import Derived.Test.YtiknhkkeifemcaaGreatDoorPkM20
namespace Go.Proofs.YtiknhkkeifemcaaGreatDoor
open Go.ChangeShapes Go.WideShapes Go.ChangeAt Go.RowKit Go.Shelf

def PlanNums (p : Plan) : Prop := ∀ i, i < p.structs.length → ∀ k, k < (p.structs.getD i []).length → (((p.structs.getD i []).getD k noPF).dflt : Int) ≤ 18446744073709551615
theorem plan_nums {w : World} {p : Plan} {a0 a1 : Option Addr} {n0 e0 n1 c1 : Nat} (hp : IsPlan w p a0 n0 e0 a1 n1 c1) : PlanNums p := by
  intro i hi k hk
  obtain ⟨_, _, _, n, _, _, _, _, hn, _, _, hfl⟩ := hp.s_at i (by rw [← hp.s_len]; exact hi)
  obtain ⟨_, _, f, hf, _, _, _, _, _, _, _, _, _, _, _, h⟩ := hfl k (by rw [← hn]; exact hk)
  rw [hf]
  exact h
theorem sgn_max (m n : Int) (h1 : 0 < m) (h2 : m ≤ 2147483648) : sgn m n ≤ 18446744073709551615 := by
  unfold sgn
  have := Int.emod_lt_of_pos n (show 0 < 2 * m by omega)
  split <;> omega
theorem sgnOf_max (n s : Int) (h : n ≤ 18446744073709551615) : sgnOf n s ≤ 18446744073709551615 := by
  unfold sgnOf
  split
  · exact sgn_max _ _ (by decide) (by decide)
  · split
    · exact sgn_max _ _ (by decide) (by decide)
    · split
      · exact sgn_max _ _ (by decide) (by decide)
      · exact h
theorem numP_max (cnt kind n : Nat) (hn : (n : Int) ≤ 18446744073709551615) : (numP cnt kind n : Int) ≤ 18446744073709551615 := by
  unfold numP
  split
  · omega
  · split
    · have := Nat.mod_le n cnt
      omega
    · have hm : ((if kSize kind < 8 then n % 2 ^ (8 * (kSize kind).toNat) else n : Nat) : Int) ≤ 18446744073709551615 := by
        split
        · have := Nat.mod_le n (2 ^ (8 * (kSize kind).toNat))
          omega
        · exact hn
      simp only
      generalize (if kSize kind < 8 then n % 2 ^ (8 * (kSize kind).toNat) else n : Nat) = m at *
      split
      · have := sgnOf_max m (kSize kind) hm
        omega
      · exact hm
theorem refP_struct {p : Plan} {f : PF} {i : Nat} (hi : i < p.structs.length) (h : kindP p i f = 13) : refP p i f < p.structs.length := by
  by_cases h10 : f.kind % 13 + 1 = 10
  · by_cases h0 : p.enums.length = 0
    · have := (kp_a (i := i) h10 h0).1
      omega
    · have := (kp_b (i := i) h10 h0).1
      omega
  · by_cases h13 : f.kind % 13 + 1 = 13
    · cases ht : p.tree with
      | true =>
        by_cases hl : i + 1 = p.structs.length
        · have := (kp_c h13 ht hl).1
          omega
        · rw [(kp_d h13 ht hl).2]
          have := Nat.mod_lt f.ref (show 0 < p.structs.length - i - 1 by omega)
          omega
      | false =>
        rw [(kp_e (i := i) h13 ht).2]
        exact Nat.mod_lt _ (by omega)
    · have := (kp_f (p := p) (i := i) h10 h13).1
      omega
end Go.Proofs.YtiknhkkeifemcaaGreatDoor
namespace Go.Proofs.YtiknhkkeifemcaaGreatDoor
open Go.ChangeShapes Go.WideShapes Go.ChangeAt Go.RowKit Go.Shelf

def crow (ss : List (SRec × Value)) : List (CRec × Value) := ss.map fun q => (cR q.1, q.2)
theorem crow_length (ss : List (SRec × Value)) : (crow ss).length = ss.length := List.length_map _
theorem crow_fst (ss : List (SRec × Value)) : (crow ss).map Prod.fst = (ss.map Prod.fst).map cR := by
  unfold crow
  rw [List.map_map, List.map_map]
  rfl
theorem made_len {p : Plan} {ss : List (SRec × Value)} (hok : planOk p) (hss : ss.map Prod.fst = recsP p p.structs.length) : 1 ≤ ss.length ∧ ss.length ≤ 16 ∧ ss.length = p.structs.length := by
  have hl : ss.length = p.structs.length := by
    have := congrArg List.length hss
    rwa [List.length_map, recsP_length] at this
  rw [hl]
  exact ⟨hok.1, hok.2.1, rfl⟩
end Go.Proofs.YtiknhkkeifemcaaGreatDoor
