/-
  The law ViewDeep's walk, structs alone. Conditions: those that each theorem names; the library's tables hold what the row lists.
-/
import Derived.Test.YtfghaopimeoijaaDoorVDeepP
namespace Go.Proofs.YtfghaopimeoijaaDoor
open Go.ChangeShapes Go.WideShapes Go.ChangeAt Go.RowKit Go.Shelf

set_option maxRecDepth 100000 in
set_option maxHeartbeats 8000000 in
theorem vdeep_plain (n : Nat) (hn : n ≤ 255) (w : World) (hT : Tabs w) :
    Calls Tryd.prog 7 #[.int .u8 n, .bool false] w fun e w' => e = .returned (.bool true) ∧ Below w.heap.size w w' := by
  have HB0 := Lib.hid (Below.refl w.heap.size w)
  have HT := Lib.hid hT
  clear hT
  go_enter Tryd.func7, Tryd.ntmps7
  go_upto_region 1 with (fail)
  go_wp2_with fail
  refine (awake7_any w HT.out).mono ?_
  rintro e W1 ⟨rfl, hb1⟩
  have HB1 := Lib.hid hb1
  clear hb1 HB0
  go_upto_region 9 with (fail)
  have hbt : Below W1.heap.size W1 (W1.alloc (.cells #[.int .u8 13, .int .i64 0, .int .i64 0] 55)) := (Below.refl _ _).alloc (Nat.le_refl _) _
  have HB2 := Lib.hid (HB1.out.trans (hbt.mono HB1.out.size))
  have HQT := Lib.hid (heap_alloc_new W1 (.cells #[.int .u8 13, .int .i64 0, .int .i64 0] 55))
  clear hbt HB1
  generalize W1.alloc (.cells #[.int .u8 13, .int .i64 0, .int .i64 0] 55) = W2 at *
  generalize W1.heap.size = T at *
  obtain ⟨_, y0, y1, y2, _⟩ := blk3 HQT.out
  obtain ⟨h0, h1, h2, h3, h4, h5, h6⟩ := five_blk W2 (cfldsCells (deepF 0)).toArray #[.string ⟨#[83]⟩, .slice (some ⟨W2.heap.size, 0, none⟩) 1 1] #[.slice (some ⟨W2.heap.size + 1, 0, none⟩) 1 1, .slice none 0 0, .int .i64 0] #[.int .u64 0, .slice none 0 0, .slice none 0 0, .bool false] #[.int .u64 0, .slice none 0 0, .slice (some ⟨W2.heap.size + 1 + 1 + 1, 0, none⟩) 1 1, .bool true] 57 51 30 36 36
  have HF := Lib.hid h1
  have HR := Lib.hid h2
  have HK := Lib.hid HB2.out.size
  have HZ := Lib.hid h3
  have HV := Lib.hid (fun m => vd_start (lists := false) m h5 h4 (by omega))
  have HB3 := Lib.hid (HB2.out.trans (h0.mono HB2.out.size))
  have HSZ := Lib.hid h6
  clear h0 h1 h2 h3 h4 h5 h6
  go_upto_region 11 with (fail)
  change Code.wp _ _ _ _ (((((W2.alloc (.cells (cfldsCells (deepF 0)).toArray 57)).alloc (.cells #[.string ⟨#[83]⟩, .slice (some ⟨W2.heap.size, 0, none⟩) 1 1] 51)).alloc (.cells #[.slice (some ⟨W2.heap.size + 1, 0, none⟩) 1 1, .slice none 0 0, .int .i64 0] 30)).alloc (.cells #[.int .u64 0, .slice none 0 0, .slice none 0 0, .bool false] 36)).alloc (.cells #[.int .u64 0, .slice none 0 0, .slice (some ⟨W2.heap.size + 1 + 1 + 1, 0, none⟩) 1 1, .bool true] 36))
  generalize ((((W2.alloc (.cells (cfldsCells (deepF 0)).toArray 57)).alloc (.cells #[.string ⟨#[83]⟩, .slice (some ⟨W2.heap.size, 0, none⟩) 1 1] 51)).alloc (.cells #[.slice (some ⟨W2.heap.size + 1, 0, none⟩) 1 1, .slice none 0 0, .int .i64 0] 30)).alloc (.cells #[.int .u64 0, .slice none 0 0, .slice none 0 0, .bool false] 36)).alloc (.cells #[.int .u64 0, .slice none 0 0, .slice (some ⟨W2.heap.size + 1 + 1 + 1, 0, none⟩) 1 1, .bool true] 36) = W4 at *
  generalize W2.heap.size = K at *
  obtain ⟨m, hm, hml⟩ : ∃ m : Nat, ((n : Int) % 14) = m ∧ m < 14 := ⟨n % 14, by omega, by omega⟩
  rw [hm]
  clear hm
  go_wp2_with fail
  go_loopw [30] (fun x wr => VDAt m (K + 1 + 1 + 1 + 1) W4 false x wr) (fun x _ => 14 - (intOf x).toNat)
  case atStart => exact HV.out m
  case round =>
    obtain ⟨j, M, hj, rfl, hV, hvh, hb⟩ := hrel
    have HVV := Lib.hid hV
    have HVH := Lib.hid hvh
    have HBW := Lib.hid hb
    obtain ⟨_, v0, v1, v2, v3⟩ := blk4p hV
    clear hV hvh hb
    by_cases hjm : j < m
    · have hji : (j : Int) < m := by omega
      go_upto_region 15 with (fail)
      have f0 := blk_frozen HVV.out 0
      have f1 := blk_frozen HVV.out 1
      have f2 := blk_frozen HVV.out 2
      have f3 := blk_frozen HVV.out 3
      have hlt := blk_lt HVV.out
      go_wp2
      go_roundw
      case rel => exact vd_next (by omega) HBW.out.size HVV.out HVH.out HBW.out
      case measure => simp [intOf]; omega
    · have hji : ¬ (j : Int) < m := by omega
      obtain rfl : j = m := by omega
      obtain ⟨_, z0, z1, z2, _⟩ := blk3 (blk_exc HZ.out HBW.out (blk_lt HZ.out) (by omega))
      go_upto_region 17 with (fail)
      have HBE := Lib.hid (((Exc.of_below HB3.out).trans (HBW.out.mono HB3.out.size)).below (by have := HK.out; omega))
      have HCR := Lib.hid (deep_rows (blk_exc HF.out HBW.out (blk_lt HF.out) (by omega)) (blk_exc HR.out HBW.out (blk_lt HR.out) (by omega)))
      have hd := deep_plain j (by omega)
      go_wp2_with fail
      refine (ftop_any wr 0 0 HCR.out (HT.out.below (Nat.le_refl _) HBE.out) (deep_ok (by decide)) _ _ HVH.out.out).mono ?_
      rintro e W6 ⟨rfl, hb6⟩
      have e1 : ((deepV false j).has && fitsP (List.map Prod.fst [((⟨⟨#[83]⟩, deepF 0⟩ : CRec), Value.slice (some ⟨K, 0, none⟩) 1 1)]) (List.map Prod.fst ([] : List (SCho × Value))) 12 13 0 0 (deepV false j)) = decide (j + 1 ≤ 12) := hd
      rw [e1]
      have HB6 := Lib.hid (HBE.out.trans (hb6.mono HBE.out.size))
      clear hb6 e1 hd z0 z1 z2 v0 v1 v2 v3
      by_cases hle : j + 1 ≤ 12
      · have hli : 1 + (j : Int) ≤ 12 := by omega
        rw [decide_eq_true hle]
        go_wp2
        go_ret
        exact ⟨rfl, HB6.out⟩
      · have hli : ¬ 1 + (j : Int) ≤ 12 := by omega
        rw [decide_eq_false hle]
        go_wp2
        go_ret
        exact ⟨ret_bool (by simp [hli]), HB6.out⟩
end Go.Proofs.YtfghaopimeoijaaDoor
