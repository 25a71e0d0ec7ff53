/-
  The law LexNumbers returns true at all texts, sizes and signs: a walk over the callees' contracts. Condition: the library's tables and its variable ErrRange hold what the row lists.
-/
import Derived.Test.YtfnopliggdemaaaDoorLAwake
import Derived.Test.YtfnopliggdemaaaDoorRefNumber
namespace Go.Proofs.YtfnopliggdemaaaDoor
open Go.ChangeShapes Go.WideShapes Go.ChangeAt Go.RowKit Go.Shelf

set_option maxHeartbeats 400000 in
theorem lexNumbers_walk (s : ByteArray) (size : Int) (sign : Bool) (w : World) (hs : s.size ≤ 9223372036854775807) (_hz : (Lit.int .i64 size).wf = true) (hT : Tabs w) (hE : ErrV w) :
    Calls Tryd.prog 4 #[.string s, .int .i64 size, .bool sign] w fun e w' => e = .returned (.bool true) ∧ Below w.heap.size w w' := by
  have HA := Lib.hid (awake_any w hT hE)
  have HE := Lib.hid hE
  clear hT hE
  by_cases hbig : (1000 : Int) < s.size
  · go_enter Tryd.func4, Tryd.ntmps4
    go_wp2_with fail
    refine HA.out.mono ?_
    rintro e w1 ⟨rfl, hb⟩
    go_wp2_with fail
    go_ret
    exact ⟨rfl, hb⟩
  · have hd : decide ((1000 : Int) < s.size) = false := by simpa using hbig
    go_enter Tryd.func4, Tryd.ntmps4
    go_wp2_with fail
    refine HA.out.mono ?_
    rintro e W1 ⟨rfl, hb1⟩
    have HB1 := Lib.hid hb1
    clear hb1
    go_wp2_with fail
    refine (lexNumber_any s size sign W1 (HE.out.later HB1.out) (by omega)).mono ?_
    rintro e W2 ⟨rfl, hb2⟩
    have HB2 := Lib.hid (HB1.out.trans (hb2.mono HB1.out.size))
    clear hb2
    have HR := Lib.hid (rnumber_any s size sign W2 (by omega))
    generalize numV (bts s) size sign = r at HR ⊢
    cases r with
    | none =>
      simp only [numR]
      go_wp2_with fail
      refine HR.out.mono ?_
      rintro e W3 ⟨x, rfl, _, rfl⟩
      simp only [Option.isSome_none]
      go_wp2
      go_ret
      exact ⟨rfl, HB2.out⟩
    | some n =>
      simp only [numR]
      go_wp2_with fail
      refine HR.out.mono ?_
      rintro e W3 ⟨x, rfl, hx, rfl⟩
      obtain rfl := hx n rfl
      simp only [Option.isSome_some]
      clear hx
      go_wp2
      go_ret
      exact ⟨rfl, HB2.out⟩
end Go.Proofs.YtfnopliggdemaaaDoor
