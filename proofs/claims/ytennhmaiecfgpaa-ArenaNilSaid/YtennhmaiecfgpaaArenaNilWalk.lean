/-
  The law ArenaNil returns true at all arguments: a walk over the callees' contracts. No conditions but that the integers fit their kinds.
-/
import Derived.Test.YtennhmaiecfgpaaAAwake
namespace Go.Proofs.Ytennhmaiecfgpaa
open Go.ChangeShapes Go.WideShapes Go.ChangeAt Go.RowKit

set_option maxRecDepth 100000 in
theorem arenaNil_walk (n s x : Int) (A : Option Addr) (len cap : Nat) (zs : List Int) (w : World) (hn : (Lit.int .i64 n).wf = true) (_hs : (Lit.int .i64 s).wf = true) (_hx : (Lit.int .u64 x).wf = true) (_hz : IsRow .u8 w A len cap zs) :
    Calls Try.prog 4 #[.int .i64 n, .int .i64 s, .int .u64 x, .slice A len cap] w fun e w' => e = .returned (.bool true) ∧ Below w.heap.size w w' := by
  have bn := (bounds_i64 hn).2
  clear hn _hs _hx _hz
  go_enter Try.func4, Try.ntmps4
  go_wp2_with fail
  refine (awake_any _).mono ?_
  rintro e w1 ⟨rfl, hb⟩
  have HB := Lib.hid hb
  clear hb
  go_wp2_with fail
  refine (room_nil _ _).mono ?_
  rintro e w' ⟨rfl, rfl⟩
  go_wp2_with fail
  refine (put_nil _ _ _ _).mono ?_
  rintro e w' ⟨rfl, rfl⟩
  go_wp2_with fail
  refine (num_nil _ _ _).mono ?_
  rintro e w' ⟨rfl, rfl⟩
  go_wp2_with fail
  refine (bytes_nil _).mono ?_
  rintro e w' ⟨rfl, rfl⟩
  go_wp2_with fail
  refine (len_nil _).mono ?_
  rintro e w' ⟨rfl, rfl⟩
  go_wp2_with fail
  refine (over_nil _).mono ?_
  rintro e w' ⟨rfl, rfl⟩
  go_wp2_with fail
  refine (align_nil _ _ bn).mono ?_
  rintro e w' ⟨rfl, rfl⟩
  go_wp2_with fail
  refine (set_nil _ _ _ _).mono ?_
  rintro e w' ⟨rfl, rfl⟩
  go_wp2
  go_ret
  exact ⟨rfl, HB.out⟩
end Go.Proofs.Ytennhmaiecfgpaa
