/-
  The fixed facts of the first chapter's examples (the function Awake) come out true, and nothing that was there is written. Condition: the library's tables hold what the row lists.
-/
import Derived.Test.YtjnpfjiphhnoiaaDoorSigns
import Derived.Test.YtjnpfjiphhnoiaaDoorMeter
import Derived.Test.YtjnpfjiphhnoiaaDoorUtf8
namespace Go.Proofs.YtjnpfjiphhnoiaaDoor
open Go.ChangeShapes Go.WideShapes Go.ChangeAt Go.RowKit

theorem u8_ex : u8At [97, 195] 0 = 1 := by kernel_rfl
theorem le_ex : leAt [1, 2, 3] 1 2 = 770 := by decide
theorem sgn_ex : sgnOf 255 1 = 18446744073709551615 := by decide
theorem atLeast0_3 : atLeast0 3 = 3 := by decide
theorem bytes3 : ∀ i, 0 ≤ [(1 : Int), 2, 3].getD i 0 ∧ [(1 : Int), 2, 3].getD i 0 ≤ 255 := by
  intro i
  match i with
  | 0 => decide
  | 1 => decide
  | 2 => decide
  | n + 3 => simp [List.getD]
theorem bytes2 : ∀ i, 0 ≤ [(97 : Int), 195].getD i 0 ∧ [(97 : Int), 195].getD i 0 ≤ 255 := by
  intro i
  match i with
  | 0 => decide
  | 1 => decide
  | n + 2 => simp [List.getD]
theorem load_ex1 (b cap : Nat) (w : World) (h0 : w.cell? ⟨b, 0, none⟩ = some (.int .u8 1)) (h1 : w.cell? ⟨b, 1, none⟩ = some (.int .u8 2)) (h2 : w.cell? ⟨b, 2, none⟩ = some (.int .u8 3)) :
    Calls Tryd.prog 19 #[.slice (some ⟨b, 0, none⟩) 3 cap, .int .i64 1, .int .i64 2] w fun e w' => e = .returned (.tuple #[.int .u64 770, .bool true]) ∧ w = w' := by
  have h := load_yes b 0 3 cap 1 2 w [1, 2, 3] (by decide) (by decide) (fun i hi => by
    match i, hi with
    | 0, _ => exact h0
    | 1, _ => exact h1
    | 2, _ => exact h2) bytes3 (by decide) (by decide) (by decide) (by decide)
  rw [← le_ex]
  exact h
theorem load_ex2 (b cap : Nat) (w : World) :
    Calls Tryd.prog 19 #[.slice (some ⟨b, 0, none⟩) 1 cap, .int .i64 0, .int .i64 3] w fun e w' => e = .returned (.tuple #[.int .u64 0, .bool false]) ∧ w = w' :=
  load_no _ 1 cap 0 3 w (by decide) (by decide)
theorem utf8_ex (b cap : Nat) (w : World) (hT : Tabs w) (hb : b < w.heap.size) (hcap : 2 ≤ cap) (h0 : w.cell? ⟨b, 0, none⟩ = some (.int .u8 97)) (h1 : w.cell? ⟨b, 1, none⟩ = some (.int .u8 195)) :
    Calls Tryd.prog 31 #[.slice (some ⟨b, 0, none⟩) 2 cap] w fun e w' => e = .returned (.int .i64 1) ∧ Below w.heap.size w w' := by
  have h := wutf8_some b 0 cap [97, 195] w hT bytes2 (fun _ => hb) (fun i hi => by
    match i, hi with
    | 0, _ => exact h0
    | 1, _ => exact h1) (by decide) hcap
  rw [← u8_ex]
  exact h
theorem signed_ex (w : World) :
    Calls Tryd.prog 25 #[.int .u64 255, .int .i64 1] w fun e w' => e = .returned (.int .u64 18446744073709551615) ∧ w = w' := by
  have h := wsigned_any 255 1 w
  rw [sgn_ex] at h
  exact h
theorem new_ex (w : World) :
    Calls Tryd.prog 11 #[.int .i64 3] w fun e w' => e = .returned (.pointer (some ⟨w.heap.size, 0, none⟩)) ∧ w' = w.alloc (.cells #[.int .i64 3, .bool false] 55) := new_any 3 w

theorem take_meter {w w' : World} {b : Nat} {left left' : Int} {out : Bool} (h : IsMeter w b left out) (hw : w' = w.setCell ⟨b, 0, none⟩ (.int .i64 left')) : IsMeter w' b left' out := by
  obtain ⟨c0, c1, f0, f1⟩ := h
  subst hw
  refine ⟨?_, ?_, ?_, ?_⟩ <;> simp [c0, c1, f0, f1, go_sem]
theorem over_meter {w w' : World} {b : Nat} {left left' : Int} {out out' : Bool} (h : IsMeter w b left out) (hw : w' = (w.setCell ⟨b, 0, none⟩ (.int .i64 left')).setCell ⟨b, 1, none⟩ (.bool out')) : IsMeter w' b left' out' := by
  obtain ⟨c0, c1, f0, f1⟩ := h
  subst hw
  refine ⟨?_, ?_, ?_, ?_⟩ <;> simp [c0, c1, f0, f1, go_sem]
set_option maxHeartbeats 400000 in
theorem awake_any (w : World) (hT : Tabs w) : Calls Tryd.prog 10 #[] w fun e w' => e = .returned (.bool true) ∧ Below w.heap.size w w' := by
  have HT := Lib.hid hT
  clear hT
  go_enter Tryd.func10, Tryd.ntmps10
  go_wp2_with fail
  refine (load_ex1 _ _ _ (by simp) (by simp) (by simp)).mono ?_
  rintro e w1 ⟨rfl, rfl⟩
  go_wp2_with fail
  refine (load_ex2 _ _ _).mono ?_
  rintro e w1 ⟨rfl, rfl⟩
  go_wp2_with fail
  refine (new_ex _).mono ?_
  rintro e w1 ⟨rfl, rfl⟩
  go_wp2_with fail
  have hb0 : Below w.heap.size w ((((w.alloc (.cells #[.int .u8 1, .int .u8 2, .int .u8 3] 5)).alloc (.cells #[.int .u8 1] 5)).alloc (.cells #[.int .i64 3, .bool false] 55)).alloc (.cells #[.int .u8 97, .int .u8 195] 5)) :=
    ((((Below.refl _ _).alloc (Nat.le_refl _) _).alloc (by simp) _).alloc (by simp; omega) _).alloc (by simp; omega) _
  refine (utf8_ex _ 2 _ (HT.out.below (Nat.le_refl _) hb0) (by simp) (Nat.le_refl _) (by go_cell) (by go_cell)).mono ?_
  rintro e w1 ⟨rfl, hb1⟩
  have c0 : w1.cell? ⟨w.heap.size + 1 + 1, 0, none⟩ = some (.int .i64 3) := (hb1.cell (p := ⟨w.heap.size + 1 + 1, 0, none⟩) (by simp)).trans (by go_cell)
  have c1 : w1.cell? ⟨w.heap.size + 1 + 1, 1, none⟩ = some (.bool false) := (hb1.cell (p := ⟨w.heap.size + 1 + 1, 1, none⟩) (by simp)).trans (by go_cell)
  have f0 : w1.frozen? ⟨w.heap.size + 1 + 1, 0, none⟩ = false := (hb1.frozen (p := ⟨w.heap.size + 1 + 1, 0, none⟩) (by simp)).trans (by go_cell)
  have f1 : w1.frozen? ⟨w.heap.size + 1 + 1, 1, none⟩ = false := (hb1.frozen (p := ⟨w.heap.size + 1 + 1, 1, none⟩) (by simp)).trans (by go_cell)
  have hm := Lib.hid (show IsMeter w1 (w.heap.size + 1 + 1) 3 false from ⟨c0, c1, f0, f1⟩)
  have hbw := Lib.hid (hb0.trans (hb1.mono (by simp; omega)))
  clear hb0 hb1 c0 c1 f0 f1
  go_wp2_with fail
  refine (signed_ex _).mono ?_
  rintro e w2 ⟨rfl, rfl⟩
  go_wp2_with fail
  refine (take_yes _ 3 2 _ hm.out (by decide) (by decide) (by decide)).mono ?_
  rintro e w2 ⟨rfl, hw2⟩
  have hm2 := Lib.hid (take_meter hm.out hw2)
  have hb2 := Lib.hid (show Below w.heap.size w w2 by rw [hw2]; exact hbw.out.setCell (by simp; omega) _)
  clear hm hbw hw2
  go_wp2_with fail
  refine (take_over _ (3 - 2) 2 _ hm2.out (by decide) (by decide)).mono ?_
  rintro e w3 ⟨rfl, hw3⟩
  have hm3 := Lib.hid (over_meter hm2.out hw3)
  have hb3 := Lib.hid (show Below w.heap.size w w3 by rw [hw3]; exact (hb2.out.setCell (by simp; omega) _).setCell (by simp; omega) _)
  clear hm2 hb2 hw3
  go_wp2_with fail
  refine (left_any _ 0 true _ hm3.out).mono ?_
  rintro e w4 ⟨rfl, rfl⟩
  go_wp2_with fail
  refine (take_no _ 0 0 true _ hm3.out (Or.inl rfl)).mono ?_
  rintro e w4 ⟨rfl, rfl⟩
  go_wp2
  go_ret
  exact ⟨rfl, hb3.out⟩
end Go.Proofs.YtjnpfjiphhnoiaaDoor
