/-
  The package lex's fits: is a number, or its opposite, one of so many bytes? Conditions: those that each theorem names.
-/
import Derived.Test.YtneadcbadnicfaaDoorSized
import Derived.Test.YtneadcbadnicfaaDoorNumPlain
import Derived.Test.YtneadcbadnicfaaDoorAmong
namespace Go.Proofs.YtneadcbadnicfaaDoor
open Go.ChangeShapes Go.WideShapes Go.ChangeAt Go.RowKit Go.Shelf

theorem fits_un (v : Int) (size m : Int) (h : span size = m) (hm : 0 < m) (h0 : 0 ≤ v) : (v / m == 0) = fitsB v false size false := by
  unfold fitsB
  rw [h, if_neg (by decide), Bool.not_false, Bool.true_and, Bool.eq_iff_iff, beq_iff_eq, decide_eq_true_iff]
  constructor
  · intro hz
    have h1 := Int.emod_lt_of_pos v hm
    have h2 := Int.mul_ediv_add_emod v m
    rw [hz, Int.mul_zero] at h2
    omega
  · intro hl
    exact Int.ediv_eq_zero_of_lt h0 hl
theorem fits_below (v : Int) (size : Int) : false = fitsB v true size false := by
  unfold fitsB
  rw [if_neg (by decide), Bool.not_true, Bool.false_and]
theorem fits_sg (v : Int) (size m : Int) (h : span size / 2 = m) : decide (v < m) = fitsB v false size true := by
  unfold fitsB
  rw [h, if_pos rfl, Bool.false_and, Bool.or_false]
theorem fits_sb (v : Int) (size m : Int) (h : span size / 2 = m) : (decide (v < m) || v == m) = fitsB v true size true := by
  unfold fitsB
  rw [h, if_pos rfl, Bool.true_and]
  rfl
theorem span_1 : span 1 = 256 := rfl
theorem span_2 : span 2 = 65536 := rfl
theorem span_4 : span 4 = 4294967296 := rfl
theorem span_8 : span 8 = 18446744073709551616 := rfl
theorem half_1 : span 1 / 2 = 128 := rfl
theorem half_2 : span 2 / 2 = 32768 := rfl
theorem half_4 : span 4 / 2 = 2147483648 := rfl
theorem half_8 : span 8 / 2 = 9223372036854775808 := rfl
set_option maxHeartbeats 1000000 in
theorem fits_any (v : Int) (below : Bool) (size : Int) (sign : Bool) (w : World) (h0 : 0 ≤ v) (hs : size = 1 ∨ size = 2 ∨ size = 4 ∨ size = 8) :
    Calls Tryd.prog 67 #[.int .u64 v, .bool below, .int .i64 size, .bool sign] w fun e w' => e = .returned (.bool (fitsB v below size sign)) ∧ w = w' := by
  rcases hs with rfl | rfl | rfl | rfl
  · cases sign <;> cases below
    · have e := Lib.hid (fits_un v 1 256 span_1 (by decide) h0)
      go_enter Tryd.func67, Tryd.ntmps67
      go_wp2
      all_goals
        go_ret
        exact ⟨ret_bool e.out, rfl⟩
    · have e := Lib.hid (fits_below v 1)
      go_enter Tryd.func67, Tryd.ntmps67
      go_wp2
      all_goals
        go_ret
        exact ⟨ret_bool e.out, rfl⟩
    · by_cases hl : v < 128
      · have e := Lib.hid (fits_sg v 1 128 half_1)
        have t : decide (v < 128) = true := by simpa using hl
        rw [t] at e
        go_enter Tryd.func67, Tryd.ntmps67
        go_wp2
        go_ret
        exact ⟨ret_bool (e.out), rfl⟩
      · have e := Lib.hid (fits_sg v 1 128 half_1)
        have t : decide (v < 128) = false := by simpa using hl
        rw [t] at e
        go_enter Tryd.func67, Tryd.ntmps67
        go_wp2
        go_ret
        exact ⟨ret_bool (e.out), rfl⟩
    · by_cases hl : v < 128
      · have e := Lib.hid (fits_sb v 1 128 half_1)
        have t : decide (v < 128) = true := by simpa using hl
        rw [t] at e
        go_enter Tryd.func67, Tryd.ntmps67
        go_wp2
        go_ret
        exact ⟨ret_bool (e.out), rfl⟩
      · have e := Lib.hid (fits_sb v 1 128 half_1)
        have t : decide (v < 128) = false := by simpa using hl
        rw [t] at e
        go_enter Tryd.func67, Tryd.ntmps67
        go_wp2
        go_ret
        exact ⟨ret_bool (e.out), rfl⟩
  · cases sign <;> cases below
    · have e := Lib.hid (fits_un v 2 65536 span_2 (by decide) h0)
      go_enter Tryd.func67, Tryd.ntmps67
      go_wp2
      all_goals
        go_ret
        exact ⟨ret_bool e.out, rfl⟩
    · have e := Lib.hid (fits_below v 2)
      go_enter Tryd.func67, Tryd.ntmps67
      go_wp2
      all_goals
        go_ret
        exact ⟨ret_bool e.out, rfl⟩
    · by_cases hl : v < 32768
      · have e := Lib.hid (fits_sg v 2 32768 half_2)
        have t : decide (v < 32768) = true := by simpa using hl
        rw [t] at e
        go_enter Tryd.func67, Tryd.ntmps67
        go_wp2
        go_ret
        exact ⟨ret_bool (e.out), rfl⟩
      · have e := Lib.hid (fits_sg v 2 32768 half_2)
        have t : decide (v < 32768) = false := by simpa using hl
        rw [t] at e
        go_enter Tryd.func67, Tryd.ntmps67
        go_wp2
        go_ret
        exact ⟨ret_bool (e.out), rfl⟩
    · by_cases hl : v < 32768
      · have e := Lib.hid (fits_sb v 2 32768 half_2)
        have t : decide (v < 32768) = true := by simpa using hl
        rw [t] at e
        go_enter Tryd.func67, Tryd.ntmps67
        go_wp2
        go_ret
        exact ⟨ret_bool (e.out), rfl⟩
      · have e := Lib.hid (fits_sb v 2 32768 half_2)
        have t : decide (v < 32768) = false := by simpa using hl
        rw [t] at e
        go_enter Tryd.func67, Tryd.ntmps67
        go_wp2
        go_ret
        exact ⟨ret_bool (e.out), rfl⟩
  · cases sign <;> cases below
    · have e := Lib.hid (fits_un v 4 4294967296 span_4 (by decide) h0)
      go_enter Tryd.func67, Tryd.ntmps67
      go_wp2
      all_goals
        go_ret
        exact ⟨ret_bool e.out, rfl⟩
    · have e := Lib.hid (fits_below v 4)
      go_enter Tryd.func67, Tryd.ntmps67
      go_wp2
      all_goals
        go_ret
        exact ⟨ret_bool e.out, rfl⟩
    · by_cases hl : v < 2147483648
      · have e := Lib.hid (fits_sg v 4 2147483648 half_4)
        have t : decide (v < 2147483648) = true := by simpa using hl
        rw [t] at e
        go_enter Tryd.func67, Tryd.ntmps67
        go_wp2
        go_ret
        exact ⟨ret_bool (e.out), rfl⟩
      · have e := Lib.hid (fits_sg v 4 2147483648 half_4)
        have t : decide (v < 2147483648) = false := by simpa using hl
        rw [t] at e
        go_enter Tryd.func67, Tryd.ntmps67
        go_wp2
        go_ret
        exact ⟨ret_bool (e.out), rfl⟩
    · by_cases hl : v < 2147483648
      · have e := Lib.hid (fits_sb v 4 2147483648 half_4)
        have t : decide (v < 2147483648) = true := by simpa using hl
        rw [t] at e
        go_enter Tryd.func67, Tryd.ntmps67
        go_wp2
        go_ret
        exact ⟨ret_bool (e.out), rfl⟩
      · have e := Lib.hid (fits_sb v 4 2147483648 half_4)
        have t : decide (v < 2147483648) = false := by simpa using hl
        rw [t] at e
        go_enter Tryd.func67, Tryd.ntmps67
        go_wp2
        go_ret
        exact ⟨ret_bool (e.out), rfl⟩
  · cases sign <;> cases below
    · have e := Lib.hid (fits_un v 8 18446744073709551616 span_8 (by decide) h0)
      go_enter Tryd.func67, Tryd.ntmps67
      go_wp2
      all_goals
        go_ret
        exact ⟨ret_bool e.out, rfl⟩
    · have e := Lib.hid (fits_below v 8)
      go_enter Tryd.func67, Tryd.ntmps67
      go_wp2
      all_goals
        go_ret
        exact ⟨ret_bool e.out, rfl⟩
    · by_cases hl : v < 9223372036854775808
      · have e := Lib.hid (fits_sg v 8 9223372036854775808 half_8)
        have t : decide (v < 9223372036854775808) = true := by simpa using hl
        rw [t] at e
        go_enter Tryd.func67, Tryd.ntmps67
        go_wp2
        go_ret
        exact ⟨ret_bool (e.out), rfl⟩
      · have e := Lib.hid (fits_sg v 8 9223372036854775808 half_8)
        have t : decide (v < 9223372036854775808) = false := by simpa using hl
        rw [t] at e
        go_enter Tryd.func67, Tryd.ntmps67
        go_wp2
        go_ret
        exact ⟨ret_bool (e.out), rfl⟩
    · by_cases hl : v < 9223372036854775808
      · have e := Lib.hid (fits_sb v 8 9223372036854775808 half_8)
        have t : decide (v < 9223372036854775808) = true := by simpa using hl
        rw [t] at e
        go_enter Tryd.func67, Tryd.ntmps67
        go_wp2
        go_ret
        exact ⟨ret_bool (e.out), rfl⟩
      · have e := Lib.hid (fits_sb v 8 9223372036854775808 half_8)
        have t : decide (v < 9223372036854775808) = false := by simpa using hl
        rw [t] at e
        go_enter Tryd.func67, Tryd.ntmps67
        go_wp2
        go_ret
        exact ⟨ret_bool (e.out), rfl⟩
end Go.Proofs.YtneadcbadnicfaaDoor
