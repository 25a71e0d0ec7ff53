/-
  The fixed facts of transomlaw02 hold: Awake returns true and writes nothing that was there: a walk over the callees' contracts. No conditions.
-/
import Derived.Test.YtennhmaiecfgpaaPut
namespace Go.Proofs.Ytennhmaiecfgpaa
open Go.ChangeShapes Go.WideShapes Go.ChangeAt Go.RowKit

theorem Moved.base {w w' : World} {base b : Nat} {A : Option Addr} {cap : Nat} {zs : List Int} {most : Int} {over : Bool} (h : Moved w w' b (rowOf A)) (ha : IsArena w base b A cap zs most over) : Below base w w' :=
  h.below (Nat.le_trans ha.low (Nat.le_of_lt ha.lt)) ha.low (fun k hk => (ha.own.row k hk).1)
theorem awake_any (w : World) : Calls Try.prog 6 #[] w fun e w' => e = .returned (.bool true) ∧ Below w.heap.size w w' := by
  go_enter Try.func6, Try.ntmps6
  go_wp2_with fail
  refine (new_any _ _).mono ?_
  rintro e w1 ⟨rfl, hw1⟩
  have ha1 := new_arena 4 w w.heap.size (Nat.le_refl _)
  rw [← hw1, show atMost 4 = 4 from rfl] at ha1
  have hb1 : Below w.heap.size w w1 := by rw [hw1]; exact (Below.refl _ _).alloc (Nat.le_refl _) _
  have A1 := Lib.hid ha1
  have B1 := Lib.hid hb1
  clear hw1 ha1 hb1
  go_wp2_with fail
  refine (num_yes (s := 2) (n := 258) A1.out (.inr (.inl rfl)) (by simp) B1.out.size).mono ?_
  rintro e w2 ⟨rfl, a2, cap2, ha2, hm2, hf2⟩
  have A2 := Lib.hid ha2
  have B2 := Lib.hid (B1.out.trans (hm2.base A1.out))
  have L2 : (laidOver ([] ++ zeros (Int.toNat 2)) ([] : List Int).length 258 (Int.toNat 2)).length = 2 := by rw [laidOver_length]; rfl
  generalize laidOver ([] ++ zeros (Int.toNat 2)) ([] : List Int).length 258 (Int.toNat 2) = z2 at A2 L2
  have HL2 := Lib.hid L2
  clear ha2 hm2 hf2 L2
  go_wp2_with fail
  refine (align_yes (n := 4) A2.out (by decide) (by decide) (by rw [HL2.out]; decide) B2.out.size).mono ?_
  rintro e w3 ⟨rfl, a3, cap3, ha3, hm3, hf3⟩
  have A3 := Lib.hid ha3
  have B3 := Lib.hid (B2.out.trans (hm3.base A2.out))
  have L3 : (z2 ++ zeros (lack z2.length 4).toNat).length = 4 := by rw [List.length_append, HL2.out]; rfl
  generalize z2 ++ zeros (lack z2.length 4).toNat = z3 at A3 L3
  have HL3 := Lib.hid L3
  clear ha3 hm3 hf3 L3
  go_wp2_with fail
  refine (room_no (n := 1) A3.out (.inr (.inr (by rw [HL3.out]; decide)))).mono ?_
  rintro e w4 ⟨rfl, a4, cap4, ha4, hm4, hf4⟩
  have A4 := Lib.hid ha4
  have B4 := Lib.hid (B3.out.trans (hm4.base A3.out))
  clear ha4 hm4 hf4
  go_wp2_with fail
  refine (bytes_no A4.out).mono ?_
  rintro e w5 ⟨rfl, rfl⟩
  go_wp2_with fail
  refine (len_any A4.out).mono ?_
  rintro e w5 ⟨rfl, rfl⟩
  rw [HL3.out]
  go_wp2_with fail
  refine (over_any A4.out).mono ?_
  rintro e w5 ⟨rfl, rfl⟩
  go_wp2
  go_ret
  exact ⟨rfl, B4.out⟩
end Go.Proofs.Ytennhmaiecfgpaa
