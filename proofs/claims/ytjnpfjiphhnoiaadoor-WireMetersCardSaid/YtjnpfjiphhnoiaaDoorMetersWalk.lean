/-
  The law WireMeters returns true at every budget and all steps: a walk over the callees' contracts. Condition: the library's tables hold what the row lists.
-/
import Derived.Test.YtjnpfjiphhnoiaaDoorAwake
import Derived.Test.YtjnpfjiphhnoiaaDoorFrame
namespace Go.Proofs.YtjnpfjiphhnoiaaDoor
open Go.ChangeShapes Go.WideShapes Go.ChangeAt Go.RowKit
theorem meter_new (w : World) (left : Int) : IsMeter (w.alloc (.cells #[.int .i64 left, .bool false] 55)) w.heap.size left false := by
  refine ⟨?_, ?_, ?_, ?_⟩ <;> go_cell
theorem atLeast0_bd (n : Int) (h : n ≤ 9223372036854775807) : 0 ≤ atLeast0 n ∧ atLeast0 n ≤ 9223372036854775807 := by
  unfold atLeast0; split <;> omega
theorem atLeast0_pos (n : Int) (h : 0 ≤ n) : atLeast0 n = n := if_pos h
theorem atLeast0_neg (n : Int) (h : ¬ 0 ≤ n) : atLeast0 n = 0 := if_neg h
/-- What the loop's head knows, behind so many steps. -/
def MetersRel (w : World) (bm : Nat) (len : Nat) (l o i : Value) (wr : World) : Prop :=
  Below w.heap.size w wr ∧ w.heap.size ≤ bm ∧ bm < wr.heap.size ∧ ∃ (left : Int) (out : Bool) (k : Nat), l = .int .i64 left ∧ o = .bool out ∧ i = .int .i64 k ∧ k ≤ len ∧ 0 ≤ left ∧ left ≤ 9223372036854775807 ∧ IsMeter wr bm left out
theorem getD_mem {zs : List Int} {k : Nat} (h : k < zs.length) : zs.getD k 0 ∈ zs := by simp [List.getD, h]
set_option maxRecDepth 100000 in
set_option maxHeartbeats 1000000 in
theorem wireMeters_walk (budget : Int) (a : Option Addr) (len cap : Nat) (zs : List Int) (w : World) (hw : (Lit.int .i64 budget).wf = true) (hz : IsRow .i64 w a len cap zs) (hT : Tabs w) :
    Calls Tryd.prog 3 #[.int .i64 budget, .slice a len cap] w fun e w' => e = .returned (.bool true) ∧ Below w.heap.size w w' := by
  obtain ⟨hl, hlen, hzl, hwf, hp⟩ := hz
  unfold maxLen at hlen
  have hlz : len ≤ zs.length := by omega
  have bb := bounds_i64 hw
  have hlb := atLeast0_bd budget bb.2
  have HA := Lib.hid (awake_any w hT)
  have HP := Lib.hid hp
  have HW := Lib.hid hwf
  clear hw hT hp hwf hzl
  obtain ⟨L, hmx, hE, hL0, hL1⟩ : ∃ L : Int, max budget 0 = L ∧ atLeast0 budget = L ∧ 0 ≤ L ∧ L ≤ 9223372036854775807 := by
    by_cases hb0 : 0 ≤ budget
    · exact ⟨budget, Int.max_eq_left hb0, atLeast0_pos budget hb0, hb0, bb.2⟩
    · exact ⟨0, Int.max_eq_right (by omega), atLeast0_neg budget hb0, by decide, by decide⟩
  have HE := Lib.hid hE
  clear hE
  go_enter Tryd.func3, Tryd.ntmps3
  go_wp2_with fail
  refine HA.out.mono ?_
  rintro e w1 ⟨rfl, hb⟩
  have HB := Lib.hid hb
  clear hb
  go_wp2_with fail
  refine (new_any _ _).mono ?_
  rintro e w2 ⟨rfl, rfl⟩
  rw [HE.out]
  go_wp2_with fail
  go_loopw [6, 7, 9] (fun l o i wr => MetersRel w w1.heap.size len l o i wr) (fun _ _ i _ => len - (intOf i).toNat)
  case atStart => exact ⟨HB.out.alloc HB.out.size _, HB.out.size, by simp, L, false, 0, rfl, rfl, rfl, Nat.zero_le _, hL0, hL1, meter_new _ _⟩
  case round =>
    obtain ⟨hbel, hbm, hbw, left, out, k, rfl, rfl, rfl, hk, hl0, hl1, hm⟩ := hrel
    have HR := Lib.hid hbel
    have HM := Lib.hid hm
    clear hbel hm hmx
    by_cases hgo : k < len ∧ (k : Int) < 1000
    · obtain ⟨hlt, hlt2⟩ := hgo
      obtain ⟨b, off, rfl, hbs, hc⟩ := HP.out (by intro h; rw [h] at hlz; simp at hlz; omega)
      have hcell : wr.cell? ⟨b, off + k, none⟩ = some (.int .i64 (zs.getD k 0)) := (HR.out.cell (p := ⟨b, off + k, none⟩) hbs).trans (hc k (by omega))
      clear hc
      have hwn := bounds_i64 (HW.out _ (getD_mem (show k < zs.length by omega)))
      generalize zs.getD k 0 = n at hcell hwn
      obtain ⟨hn0, hn1⟩ := hwn
      by_cases hneg : n < 0
      · go_wp2_with fail
        refine (take_no _ left n out _ HM.out (Or.inr hneg)).mono ?_
        rintro e w2 ⟨rfl, rfl⟩
        go_wp2_with fail
        refine (left_any _ (left) out _ HM.out).mono ?_
        rintro e w3 ⟨rfl, rfl⟩
        go_wp2_with fail
        refine (out_any _ (left) out _ HM.out).mono ?_
        rintro e w3 ⟨rfl, rfl⟩
        go_wp2_with fail
        refine (take_nil _ _).mono ?_
        rintro e w3 ⟨rfl, rfl⟩
        go_wp2_with fail
        go_roundw
        case rel => exact ⟨HR.out, hbm, hbw, left, out, k + 1, rfl, rfl, by go_num, by omega, hl0, hl1, HM.out⟩
        case measure => simp [intOf]; omega
      · have hneg' : 0 ≤ n := by omega
        clear hneg
        cases out
        · by_cases hle : n ≤ left
          · go_wp2_with fail
            refine (take_yes _ left n _ HM.out hneg' hle hl1).mono ?_
            rintro e w2 ⟨rfl, hw2⟩
            have hm2 := Lib.hid (take_meter HM.out hw2)
            have hb2 := Lib.hid (show Below w.heap.size w w2 by rw [hw2]; exact HR.out.setCell hbm _)
            have hs2 : w1.heap.size < w2.heap.size := by rw [hw2]; simpa using hbw
            clear hw2 hcell
            go_wp2_with fail
            refine (left_any _ (left - n) false _ hm2.out).mono ?_
            rintro e w3 ⟨rfl, rfl⟩
            go_wp2_with fail
            refine (out_any _ (left - n) false _ hm2.out).mono ?_
            rintro e w3 ⟨rfl, rfl⟩
            go_wp2_with fail
            refine (take_nil _ _).mono ?_
            rintro e w3 ⟨rfl, rfl⟩
            go_wp2_with fail
            go_roundw
            case rel => exact ⟨hb2.out, hbm, hs2, left - n, false, k + 1, rfl, rfl, by go_num, by omega, by omega, by omega, hm2.out⟩
            case measure => simp [intOf]; omega
          · go_wp2_with fail
            refine (take_over _ left n _ HM.out hneg' (by omega)).mono ?_
            rintro e w2 ⟨rfl, hw2⟩
            have hm2 := Lib.hid (over_meter HM.out hw2)
            have hb2 := Lib.hid (show Below w.heap.size w w2 by rw [hw2]; exact (HR.out.setCell hbm _).setCell hbm _)
            have hs2 : w1.heap.size < w2.heap.size := by rw [hw2]; simpa using hbw
            clear hw2 hcell
            go_wp2_with fail
            refine (left_any _ (0) true _ hm2.out).mono ?_
            rintro e w3 ⟨rfl, rfl⟩
            go_wp2_with fail
            refine (out_any _ (0) true _ hm2.out).mono ?_
            rintro e w3 ⟨rfl, rfl⟩
            go_wp2_with fail
            refine (take_nil _ _).mono ?_
            rintro e w3 ⟨rfl, rfl⟩
            go_wp2_with fail
            go_roundw
            case rel => exact ⟨hb2.out, hbm, hs2, 0, true, k + 1, rfl, rfl, by go_num, by omega, by decide, by decide, hm2.out⟩
            case measure => simp [intOf]; omega
        · go_wp2_with fail
          refine (take_no _ left n true _ HM.out (Or.inl rfl)).mono ?_
          rintro e w2 ⟨rfl, rfl⟩
          go_wp2_with fail
          refine (left_any _ (left) true _ HM.out).mono ?_
          rintro e w3 ⟨rfl, rfl⟩
          go_wp2_with fail
          refine (out_any _ (left) true _ HM.out).mono ?_
          rintro e w3 ⟨rfl, rfl⟩
          go_wp2_with fail
          refine (take_nil _ _).mono ?_
          rintro e w3 ⟨rfl, rfl⟩
          go_wp2_with fail
          go_roundw
          case rel => exact ⟨HR.out, hbm, hbw, left, true, k + 1, rfl, rfl, by go_num, by omega, hl0, hl1, HM.out⟩
          case measure => simp [intOf]; omega
    · by_cases hlt : k < len
      · have hlt2 : ¬ (k : Int) < 1000 := fun h => hgo ⟨hlt, h⟩
        clear hgo
        go_wp2_with fail
        refine (left_nil _).mono ?_
        rintro e w3 ⟨rfl, rfl⟩
        go_wp2_with fail
        refine (out_nil _).mono ?_
        rintro e w3 ⟨rfl, rfl⟩
        go_wp2_with fail
        refine (left_any _ left out _ HM.out).mono ?_
        rintro e w3 ⟨rfl, rfl⟩
        go_wp2
        go_ret
        exact ⟨rfl, HR.out⟩
      · clear hgo
        go_wp2_with fail
        refine (left_nil _).mono ?_
        rintro e w3 ⟨rfl, rfl⟩
        go_wp2_with fail
        refine (out_nil _).mono ?_
        rintro e w3 ⟨rfl, rfl⟩
        go_wp2_with fail
        refine (left_any _ left out _ HM.out).mono ?_
        rintro e w3 ⟨rfl, rfl⟩
        go_wp2
        go_ret
        exact ⟨rfl, HR.out⟩
end Go.Proofs.YtjnpfjiphhnoiaaDoor
