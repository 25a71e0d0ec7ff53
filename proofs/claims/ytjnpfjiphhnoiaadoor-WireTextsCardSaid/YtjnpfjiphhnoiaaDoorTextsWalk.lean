/-
  The law WireTexts returns true at all bytes: a walk over the callees' contracts. Condition: the library's tables hold what the row lists.
-/
import Derived.Test.YtjnpfjiphhnoiaaDoorAwake
import Derived.Test.YtjnpfjiphhnoiaaDoorOwn
namespace Go.Proofs.YtjnpfjiphhnoiaaDoor
open Go.ChangeShapes Go.WideShapes Go.ChangeAt Go.RowKit
set_option maxHeartbeats 400000 in
theorem wireTexts_walk (a : Option Addr) (len cap : Nat) (zs : List Int) (w : World) (hz : IsRow .u8 w a len cap zs) (hT : Tabs w) :
    Calls Tryd.prog 8 #[.slice a len cap] w fun e w' => e = .returned (.bool true) ∧ Below w.heap.size w w' := by
  have HA := Lib.hid (awake_any w hT)
  have HT := Lib.hid hT
  have HZ := Lib.hid hz
  obtain ⟨hl, hm, hzl, hwf, _⟩ := hz
  unfold maxLen at hm
  have HW := Lib.hid (bytes_wf (take_wf (m := len) hwf))
  have HL := Lib.hid (show (zs.take len).length = len by simp; omega)
  clear hT hwf hzl
  by_cases hbig : (3000 : Int) < len
  · go_enter Tryd.func8, Tryd.ntmps8
    go_wp2_with fail
    refine HA.out.mono ?_
    rintro e w1 ⟨rfl, hb⟩
    go_wp2_with fail
    go_ret
    exact ⟨rfl, hb⟩
  · obtain ⟨i0, hi0, hz0, hz1, hz2⟩ := info_parts u8_info
    have I1 := Lib.hid hi0
    have I2 := Lib.hid hz0
    have I3 := Lib.hid hz1
    have I4 := Lib.hid hz2
    clear hi0 hz0 hz1 hz2
    go_enter Tryd.func8, Tryd.ntmps8
    go_wp2_with fail
    refine HA.out.mono ?_
    rintro e w1 ⟨rfl, hb⟩
    have HB := Lib.hid hb
    clear hb
    go_wp2_with (at_builtin; refine wpList_clone rfl (.tmp 8) (.tmp 9) 29 rfl 5 i0 (.int .u8 0) Tryd.underlying29 I1.out I2.out I3.out I4.out rfl w1.heap.size w1.heap.size (Nat.le_refl _) (heap_alloc_new w1 _) rfl a len cap (zs.take len) rfl (HZ.out.src (HB.out.alloc HB.out.size _)) (by omega) (by simp) ?_; intro v2 w2 hown hb2)
    have hb2' := HB.out.trans ((((Below.refl _ w1).alloc (Nat.le_refl _) _).trans hb2).mono HB.out.size)
    obtain ⟨g, c2, rfl, hc2, hby⟩ := hown.bytes HW.out
    have HB2 := Lib.hid hb2'
    have HY := Lib.hid hby
    clear hb2 hb2' hown hby
    rw [HL.out]
    refine (wutf8_call g c2 len _ w2 (HT.out.below (Nat.le_refl _) HB2.out) HY.out HL.out (by omega) hc2).mono ?_
    rintro e w3 ⟨rfl, hb3⟩
    have HB3 := Lib.hid (HB2.out.trans (hb3.mono HB2.out.size))
    clear hb3
    go_wp2_with fail
    refine (rutf8_call a cap len _ w3 (HT.out.below (Nat.le_refl _) HB3.out) (HZ.out.bytes HB3.out) HL.out (by omega) (by omega)).mono ?_
    rintro e w4 ⟨rfl, hb4⟩
    go_wp2
    go_ret
    exact ⟨rfl, HB3.out.trans (hb4.mono HB3.out.size)⟩
end Go.Proofs.YtjnpfjiphhnoiaaDoor
