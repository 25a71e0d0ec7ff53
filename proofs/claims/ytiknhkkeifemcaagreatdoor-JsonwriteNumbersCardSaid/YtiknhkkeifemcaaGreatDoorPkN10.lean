/-
  The hand's label. Conditions: those that the theorem names.
-/
import Derived.Test.YtiknhkkeifemcaaGreatDoorPkN3
import Derived.Test.YtiknhkkeifemcaaGreatDoorPkN6
import Derived.Test.YtiknhkkeifemcaaGreatDoorPkN7
import Derived.Deep.RegionHeld3
import Derived.Deep.Cut
import Derived.IntWalk
import Derived.RegionTactic
import Derived.BigRegion
namespace Go.Proofs.YtiknhkkeifemcaaGreatDoor
open Go.ChangeShapes Go.WideShapes Go.ChangeAt Go.RowKit Go.Shelf

theorem heads_cell {W : World} {g m : Nat} (hm : m < 10) (h : W.heap[g]? = some (.cells #[.string ⟨#[97]⟩, .string ⟨#[120, 95]⟩, .string ⟨#[90, 101, 100]⟩, .string ⟨#[195, 169]⟩, .string ⟨#[239, 172, 128]⟩, .string ⟨#[240, 159, 152, 128]⟩, .string ⟨#[108, 105, 115, 116]⟩, .string ⟨#[98, 32, 99]⟩, .string ⟨#[115, 116, 114, 117, 99, 116]⟩, .string ⟨#[47]⟩] 9 (0, 0))) :
    W.cell? ⟨g, m, none⟩ = some (.string (headOf m)) := by
  rw [blk_cell h]
  have : m = 0 ∨ m = 1 ∨ m = 2 ∨ m = 3 ∨ m = 4 ∨ m = 5 ∨ m = 6 ∨ m = 7 ∨ m = 8 ∨ m = 9 := by omega
  rcases this with rfl | rfl | rfl | rfl | rfl | rfl | rfl | rfl | rfl | rfl <;> rfl
theorem heads_size {m : Nat} (hm : m < 10) : (headOf m).size ≤ 6 := by
  have : m = 0 ∨ m = 1 ∨ m = 2 ∨ m = 3 ∨ m = 4 ∨ m = 5 ∨ m = 6 ∨ m = 7 ∨ m = 8 ∨ m = 9 := by omega
  rcases this with rfl | rfl | rfl | rfl | rfl | rfl | rfl | rfl | rfl | rfl <;> decide
theorem one_str_drew (W : World) (z : Int) : (convert 22 9 (.slice (some ⟨W.heap.size, 0, none⟩) 1 1)).run Tryz.prog (W.alloc (.cells #[.int .u8 z] 5)).drew = .ok (.string (strOfNums [z])) (W.alloc (.cells #[.int .u8 z] 5)).drew := by
  refine run_convert_bytes_arg (P := Tryz.prog) _ 22 5 Tryz.underlying22 Tryz.underlying5 W.heap.size 0 1 1 [z] rfl (fun k hk => ?_) 9 Tryz.underlying9
  obtain rfl : k = 0 := by omega
  show (W.alloc (.cells #[.int .u8 z] 5)).cell? _ = _
  rw [cell_of_row _ _ _ _ _ (0, 0) (heap_alloc_new W _)]
  rfl
set_option maxRecDepth 100000 in
theorem hlabel_any (n i : Nat) (w : World) (hn : n ≤ 255) (hi : i < 16) :
    Calls Tryz.prog 42 #[.int .u8 n, .int .i64 i] w fun e w' => e = .returned (.string (labelOf n i)) ∧ Below w.heap.size w w' := by
  have kc := one_str_drew
  have hmod : (n : Int) % 10 = ((n % 10 : Nat) : Int) := by omega
  have hmod2 : (i : Int) % 26 = ((i % 26 : Nat) : Int) := by omega
  have htm : (n : Int).tmod 10 = ((n % 10 : Nat) : Int) := by rw [Int.tmod_eq_emod_of_nonneg (by omega)]; omega
  have htm2 : (i : Int).tmod 26 = ((i % 26 : Nat) : Int) := by rw [Int.tmod_eq_emod_of_nonneg (by omega)]; omega
  have hL : labelOf n i = headOf (n % 10) ++ strOfNums [97 + ((i % 26 : Nat) : Int)] := by unfold labelOf; rw [hmod2]
  have HL := Lib.hid hL
  clear hL
  have hm : n % 10 < 10 := by omega
  have hj : i % 26 < 26 := by omega
  generalize n % 10 = m at *
  generalize i % 26 = j at *
  have HC := Lib.hid (fun (W : World) (g : Nat) (h : W.heap[g]? = _) => heads_cell (W := W) (g := g) hm h)
  have hsz : (headOf m).size ≤ 6 := heads_size hm
  have hsz2 : ¬ 9223372036854775807 < (headOf m).size + (strOfNums [97 + (j : Int)]).size := by rw [strOfNums_size, List.length_singleton]; omega
  have hb1 : (0 : Int) ≤ (m : Int) := by omega
  have hb2 : (m : Int) < 10 := by omega
  have hw0 := IntWalk.i64_in (n : Int) (by omega)
  have hw1 := IntWalk.i64_in (m : Int) (by omega)
  have hw2 := IntWalk.i64_in (j : Int) (by omega)
  have hw3 := IntWalk.i64_in (97 + (j : Int)) (by omega)
  have hw4 : IntKind.u8.wrap (97 + (j : Int)) = 97 + (j : Int) := by simp only [IntKind.wrap, IntKind.bits, IntKind.signed]; simp; omega
  go_enter Tryz.func42, Tryz.ntmps42
  go_upto_region 2 with (fail)
  have h0 := heap_alloc_new w (.cells #[.string ⟨#[97]⟩, .string ⟨#[120, 95]⟩, .string ⟨#[90, 101, 100]⟩, .string ⟨#[195, 169]⟩, .string ⟨#[239, 172, 128]⟩, .string ⟨#[240, 159, 152, 128]⟩, .string ⟨#[108, 105, 115, 116]⟩, .string ⟨#[98, 32, 99]⟩, .string ⟨#[115, 116, 114, 117, 99, 116]⟩, .string ⟨#[47]⟩] 9)
  have HB := Lib.hid ((Below.refl w.heap.size w).alloc (Nat.le_refl _) (.cells #[.string ⟨#[97]⟩, .string ⟨#[120, 95]⟩, .string ⟨#[90, 101, 100]⟩, .string ⟨#[195, 169]⟩, .string ⟨#[239, 172, 128]⟩, .string ⟨#[240, 159, 152, 128]⟩, .string ⟨#[108, 105, 115, 116]⟩, .string ⟨#[98, 32, 99]⟩, .string ⟨#[115, 116, 114, 117, 99, 116]⟩, .string ⟨#[47]⟩] 9))
  generalize w.alloc (.cells #[.string ⟨#[97]⟩, .string ⟨#[120, 95]⟩, .string ⟨#[90, 101, 100]⟩, .string ⟨#[195, 169]⟩, .string ⟨#[239, 172, 128]⟩, .string ⟨#[240, 159, 152, 128]⟩, .string ⟨#[108, 105, 115, 116]⟩, .string ⟨#[98, 32, 99]⟩, .string ⟨#[115, 116, 114, 117, 99, 116]⟩, .string ⟨#[47]⟩] 9) = W0 at *
  have x0 := HC.out W0 _ h0
  have hlt : w.heap.size < W0.heap.size := blk_lt h0
  clear h0
  generalize headOf m = S at *
  go_region
  all_goals
    go_wp2
    go_ret
    refine ⟨(by rw [HL.out] : Ending.returned (.string (S ++ strOfNums [97 + (j : Int)])) = _), ?_⟩
    exact (by first | exact (HB.out.alloc HB.out.size _).drew | exact HB.out.drew.alloc HB.out.size _ | exact HB.out.alloc HB.out.size _)
end Go.Proofs.YtiknhkkeifemcaaGreatDoor
