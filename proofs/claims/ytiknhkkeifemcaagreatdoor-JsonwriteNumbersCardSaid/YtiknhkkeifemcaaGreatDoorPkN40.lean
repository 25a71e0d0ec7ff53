/-
  A world in which the three variables that the rows of jsonwrite's laws list lie as the program's text lays them; and what the walks ask of them, out of that condition. No conditions.
-/
import Derived.Test.YtiknhkkeifemcaaGreatDoorPkN2
import Derived.Test.YtiknhkkeifemcaaGreatDoorPkN3
import Derived.Test.YtiknhkkeifemcaaGreatDoorPkN4
import Derived.Test.YtiknhkkeifemcaaGreatDoorPkN38
import Derived.Laws.BytesArg
import Derived.Lib.LaidTab
import Derived.Stop.LaidErr
namespace Go.Proofs.YtiknhkkeifemcaaGreatDoor
open Go.ChangeShapes Go.WideShapes Go.ChangeAt Go.RowKit Go.Shelf

set_option maxRecDepth 100000 in
theorem decimal_plain (n : Nat) (w : World) (hn : (n : Int) ≤ 18446744073709551615) :
    Calls Tryz.prog 101 #[.int .u64 n, .bool false] w (StrIs (fun s => bts s = decDigs n) w) := by
  have kc := one_str
  have HN := Lib.hid hn
  go_enter Tryz.func101, Tryz.ntmps101
  go_wp2
  go_loopw [0, 5] (fun m s wr => Below w.heap.size w wr ∧ ∃ (k : Nat) (b : ByteArray), (k : Int) ≤ 18446744073709551615 ∧ m = .int .u64 k ∧ s = .string b ∧ decDigs n = decDigs k ++ bts b) (fun m _ _ => (intOf m).toNat)
  case atStart => exact ⟨Below.refl _ _, n, _, HN.out, rfl, rfl, (List.append_nil _).symm⟩
  case round =>
    obtain ⟨hb, k, b, hk, rfl, rfl, hd⟩ := hrel
    have HB := Lib.hid hb
    have HD := Lib.hid hd
    clear hb hd
    have hbl : b.size ≤ 20 := by
      have h1 := congrArg List.length HD.out
      have h2 := (decDigs_length (n := n) (Int.ofNat_le.1 HN.out)).2
      rw [List.length_append, bts_length] at h1
      omega
    by_cases h9 : (9 : Int) < k
    · have HS := Lib.hid (decDigs_step (n := k) (by omega) (Int.ofNat_le.1 hk))
      have HZ := Lib.hid (bts_strOf [48 + (k : Int) % 10] (by intro z hz; simp only [List.mem_singleton] at hz; omega))
      have hsz : ¬ 9223372036854775807 < (strOfNums [48 + (k : Int) % 10]).size + b.size := by rw [strOfNums_size]; simp; omega
      go_wp2
      go_roundw
      case rel => exact ⟨HB.out.alloc HB.out.size _, k / 10, _, by omega, congrArg (Value.int .u64) (by omega), rfl, by rw [HD.out, HS.out, bts_append, HZ.out, List.append_assoc]; congr 3⟩
      case measure => simp [intOf]; omega
    · have HS := Lib.hid (decDigs_small (n := k) (by omega))
      have HZ := Lib.hid (bts_strOf [48 + (k : Int)] (by intro z hz; simp only [List.mem_singleton] at hz; omega))
      have hsz : ¬ 9223372036854775807 < (strOfNums [48 + (k : Int)]).size + b.size := by rw [strOfNums_size]; simp; omega
      go_wp2
      go_ret
      exact ⟨_, rfl, show bts _ = _ by rw [bts_append, HZ.out, HD.out, HS.out], HB.out.alloc HB.out.size _⟩
set_option maxRecDepth 100000 in
theorem decimal_pos (n : Nat) (w : World) (hn : (n : Int) ≤ 9223372036854775807) :
    Calls Tryz.prog 101 #[.int .u64 n, .bool true] w (StrIs (fun s => bts s = decDigs n) w) := by
  have kc := one_str
  have HN := Lib.hid (show (n : Int) ≤ 18446744073709551615 by omega)
  have t0 : ((n : Int) / 9223372036854775808 == 1) = false := by simp; omega
  go_enter Tryz.func101, Tryz.ntmps101
  go_wp2
  go_loopw [0, 5] (fun m s wr => Below w.heap.size w wr ∧ ∃ (k : Nat) (b : ByteArray), (k : Int) ≤ 18446744073709551615 ∧ m = .int .u64 k ∧ s = .string b ∧ decDigs n = decDigs k ++ bts b) (fun m _ _ => (intOf m).toNat)
  case atStart => exact ⟨Below.refl _ _, n, _, HN.out, rfl, rfl, (List.append_nil _).symm⟩
  case round =>
    obtain ⟨hb, k, b, hk, rfl, rfl, hd⟩ := hrel
    have HB := Lib.hid hb
    have HD := Lib.hid hd
    clear hb hd
    have hbl : b.size ≤ 20 := by
      have h1 := congrArg List.length HD.out
      have h2 := (decDigs_length (n := n) (Int.ofNat_le.1 HN.out)).2
      rw [List.length_append, bts_length] at h1
      omega
    by_cases h9 : (9 : Int) < k
    · have HS := Lib.hid (decDigs_step (n := k) (by omega) (Int.ofNat_le.1 hk))
      have HZ := Lib.hid (bts_strOf [48 + (k : Int) % 10] (by intro z hz; simp only [List.mem_singleton] at hz; omega))
      have hsz : ¬ 9223372036854775807 < (strOfNums [48 + (k : Int) % 10]).size + b.size := by rw [strOfNums_size]; simp; omega
      go_wp2
      go_roundw
      case rel => exact ⟨HB.out.alloc HB.out.size _, k / 10, _, by omega, congrArg (Value.int .u64) (by omega), rfl, by rw [HD.out, HS.out, bts_append, HZ.out, List.append_assoc]; congr 3⟩
      case measure => simp [intOf]; omega
    · have HS := Lib.hid (decDigs_small (n := k) (by omega))
      have HZ := Lib.hid (bts_strOf [48 + (k : Int)] (by intro z hz; simp only [List.mem_singleton] at hz; omega))
      have hsz : ¬ 9223372036854775807 < (strOfNums [48 + (k : Int)]).size + b.size := by rw [strOfNums_size]; simp; omega
      go_wp2
      go_ret
      exact ⟨_, rfl, show bts _ = _ by rw [bts_append, HZ.out, HD.out, HS.out], HB.out.alloc HB.out.size _⟩
theorem decimal_neg (n : Nat) (w : World) (h1 : (9223372036854775808 : Int) ≤ n) (h2 : (n : Int) ≤ 18446744073709551615) :
    Calls Tryz.prog 101 #[.int .u64 n, .bool true] w (StrIs (fun s => bts s = 45 :: decDigs (18446744073709551616 - n)) w) := by
  have t0 : ((n : Int) / 9223372036854775808 == 1) = true := by simp; omega
  have HX := Lib.hid (xor_max n h2)
  have HM := Lib.hid (Nat.mod_eq_of_lt (show 18446744073709551616 - n < 18446744073709551616 by omega))
  have hv : ((18446744073709551616 - n : Nat) : Int) ≤ 18446744073709551615 := by omega
  generalize 18446744073709551616 - n = v at HX HM hv ⊢
  have HV := Lib.hid hv
  go_enter Tryz.func101, Tryz.ntmps101
  go_wp2_with fail
  rw [HX.out, HM.out]
  refine (decimal_plain v w HV.out).mono ?_
  rintro e W1 ⟨s, rfl, hs, hb⟩
  have HB := Lib.hid hb
  have HS := Lib.hid hs
  have hl : s.size ≤ 20 := by
    have h3 := congrArg List.length hs
    have h4 := (decDigs_length (n := v) (Int.ofNat_le.1 hv)).2
    rw [bts_length] at h3
    omega
  clear hb hs
  go_wp2
  go_ret
  exact ⟨_, rfl, (show bts _ = _ by rw [bts_append, show bts s = decDigs v from HS.out]; rfl), HB.out⟩
end Go.Proofs.YtiknhkkeifemcaaGreatDoor
namespace Go.Proofs.YtiknhkkeifemcaaGreatDoor
open Go.ChangeShapes Go.WideShapes Go.ChangeAt Go.RowKit

def numCells (d : DataW Unit) : Array Value :=
  match d with
  | .agg parts => (parts.filterMap fun | .lit (.int k n) => some (Value.int k n) | _ => none).toArray
  | _ => #[]
def withCells (cs : Array Value) : Obj → Obj
  | .cells _ t frozen => .cells cs t frozen
  | o => o
noncomputable def laidWorld (os : Os) : World :=
  { World.holding Tryz.prog os ⟨#[], #[], []⟩ with
    heap := (((World.holding Tryz.prog os ⟨#[], #[], []⟩).heap.modify
      0 (withCells (numCells Rows.laid_internal_strconv_uint64pow10))).modify
      1 (withCells (numCells Rows.laid_math_bits_deBruijn32tab))).modify
      2 (withCells (numCells Rows.laid_math_bits_deBruijn64tab)) }
abbrev laid3 : List (String × DataW Unit) := [("math/bits.deBruijn32tab", Rows.laid_math_bits_deBruijn32tab), ("math/bits.deBruijn64tab", Rows.laid_math_bits_deBruijn64tab), ("internal/strconv.uint64pow10", Rows.laid_internal_strconv_uint64pow10)]
theorem laid3_met (os : Os) (args : Array Value) : laidMet Tryz.prog laid3 ((laidWorld os).forCall (fun _ _ => 0) ⟨#[], args, []⟩).memory :=
  laidMet_of_run' 8 (by kernel_rfl) (by kernel_rfl)
theorem laid3_plain {W : World} (h : laidMetH Tryz.prog laid3 W) : laidMet Tryz.prog laid3 W := h
theorem pow_data : (Rows.laid_internal_strconv_uint64pow10 : DataW Unit) = Lib.tabData .u64 Lib.pow10Tab := by kernel_rfl
theorem powT_of_laid3 {W : World} (h : laidMetH Tryz.prog laid3 W) : PowT W := by
  have h' := (laid3_plain h).tail.tail
  rw [pow_data] at h'
  exact Lib.tabIs_of_head (g := 0) (by kernel_rfl) (by kernel_rfl) Tryz.underlying260 Tryz.underlying37 (by kernel_rfl) (by kernel_rfl) h'
end Go.Proofs.YtiknhkkeifemcaaGreatDoor
