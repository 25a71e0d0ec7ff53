/-
  The package layout's small functions (Bits, number, multiple, Inline) and the document's own. Conditions: those that each theorem names.
-/
import Derived.Test.YtdlfndjgncdgfaaDoorHandB
import Derived.Test.YtdlfndjgncdgfaaDoorWSize
namespace Go.Proofs.YtdlfndjgncdgfaaDoor
open Go.ChangeShapes Go.WideShapes Go.ChangeAt Go.RowKit Go.Shelf

/-- How many bits a kind's numbers have in words. -/
def bitsK (k : Int) : Int := if k = 1 then 1 else if k = 10 then 16 else 8 * kSize k
theorem kSize_bd (k : Int) : 0 ≤ kSize k ∧ kSize k ≤ 8 := by
  unfold kSize
  split
  · omega
  · split
    · omega
    · split
      · omega
      · split <;> omega
theorem lbits_any (k : Int) (w : World) : Calls Tryd.prog 16 #[.int .u8 k] w fun e w' => e = .returned (.int .i64 (bitsK k)) ∧ w' = w := by
  by_cases h1 : k = 1
  · subst h1
    go_enter Tryd.func16, Tryd.ntmps16
    go_wp2
    go_ret
    exact ⟨rfl, rfl⟩
  have t1 : (k == 1) = false := by simpa using h1
  by_cases h10 : k = 10
  · subst h10
    go_enter Tryd.func16, Tryd.ntmps16
    go_wp2
    go_ret
    exact ⟨rfl, rfl⟩
  have t10 : (k == 10) = false := by simpa using h10
  have HE : Hid (bitsK k = 8 * kSize k) := Lib.hid (by unfold bitsK; rw [if_neg h1, if_neg h10])
  have hb := kSize_bd k
  clear h1 h10
  go_enter Tryd.func16, Tryd.ntmps16
  go_wp2_with fail
  refine (wsize_any _ _).mono ?_
  rintro e w1 ⟨rfl, rfl⟩
  generalize kSize k = z at *
  go_wp2
  go_ret
  exact ⟨ret_int HE.out.symm, rfl⟩
theorem lnumber_any (kind ref lists : Nat) (w : World) :
    Calls Tryd.prog 33 #[.agg #[.int .u8 kind, .int .i64 ref, .int .i64 lists]] w fun e w' => e = .returned (.bool (isNumP kind lists)) ∧ Below w.heap.size w w' := by
  have h0 := heap_alloc_new w (.cells #[.int .u8 kind, .int .i64 ref, .int .i64 lists] 50)
  have HB := Lib.hid ((Below.refl w.heap.size w).alloc (Nat.le_refl _) (.cells #[.int .u8 kind, .int .i64 ref, .int .i64 lists] 50))
  obtain ⟨_, x0, x1, x2, _⟩ := blk3 h0
  clear h0
  by_cases hl : lists = 0
  · have HS : Hid (isNumP kind lists = decide (0 < kSize kind)) := Lib.hid (by unfold isNumP; rw [decide_eq_true hl, Bool.true_and])
    subst hl
    go_enter Tryd.func33, Tryd.ntmps33
    go_wp2_with fail
    refine (wsize_any _ _).mono ?_
    rintro e W1 ⟨rfl, rfl⟩
    generalize kSize (kind : Int) = z at *
    go_wp2
    go_ret
    exact ⟨ret_bool HS.out.symm, HB.out⟩
  · have HS : Hid (isNumP kind lists = false) := Lib.hid (by unfold isNumP; rw [decide_eq_false hl, Bool.false_and])
    have hl1 : ((lists : Int) == 0) = false := by simp; omega
    clear hl
    go_enter Tryd.func33, Tryd.ntmps33
    go_wp2
    go_ret
    exact ⟨ret_bool HS.out.symm, HB.out⟩
/-- The first multiple of a number from n on. -/
def multI (n m : Int) : Int := (n + m - 1) / m * m
theorem multiple_any (n m : Int) (w : World) (h0 : 0 ≤ n) (hn : n ≤ 1000000) (h1 : 1 ≤ m) (hm : m ≤ 1000) :
    Calls Tryd.prog 34 #[.int .i64 n, .int .i64 m] w fun e w' => e = .returned (.int .i64 (multI n m)) ∧ w' = w := by
  have hz : m ≠ 0 := by omega
  have hq : (n + m - 1).tdiv m = (n + m - 1) / m := Int.tdiv_eq_ediv_of_nonneg (by omega)
  have hq0 : 0 ≤ (n + m - 1) / m := Int.ediv_nonneg (by omega) (by omega)
  have hq1 : (n + m - 1) / m * m ≤ n + m - 1 := Int.ediv_mul_le _ (by omega)
  have hq2 : 0 ≤ (n + m - 1) / m * m := Int.mul_nonneg hq0 (by omega)
  have hq3 : (n + m - 1) / m ≤ n + m - 1 := Int.ediv_le_self _ (by omega)
  have HE : Hid (multI n m = (n + m - 1) / m * m) := Lib.hid rfl
  have k1 := IntWalk.i64_in (n + m) (by omega)
  have k2 := IntWalk.i64_in (n + m - 1) (by omega)
  have k3 := IntWalk.i64_in ((n + m - 1) / m) (by omega)
  have k4 := IntWalk.i64_in ((n + m - 1) / m * m) (by omega)
  generalize (n + m - 1) / m = q at *
  go_enter Tryd.func34, Tryd.ntmps34
  go_wp2
  go_ret
  exact ⟨ret_int HE.out.symm, rfl⟩
end Go.Proofs.YtdlfndjgncdgfaaDoor
