/-
  The law SchemaLimits, way by way: walks over the callees' contracts. Conditions: the library's tables hold what the row lists, its error lies there; those that each theorem names.
-/
import Derived.Test.YtleclhnlojalbaaGreatDoorPkL35
import Derived.Test.YtleclhnlojalbaaGreatDoorPkL42
import Derived.Test.YtleclhnlojalbaaGreatDoorPkL45
namespace Go.Proofs.YtleclhnlojalbaaGreatDoor
open Go.ChangeShapes Go.WideShapes Go.ChangeAt Go.RowKit Go.Shelf

set_option maxRecDepth 100000 in
set_option maxHeartbeats 4000000 in
theorem limits_0_0 (what over : Int) (w : World) (hw : what.tmod 4 = 0) (ho : over.tmod 2 = 0) (hT : Tabs w) (hE : ErrV w) :
    Calls Tryz.prog 8 #[.int .u8 what, .int .u8 over] w fun e w' => e = .returned (.bool true) ∧ Below w.heap.size w w' := by
  have HT := Lib.hid hT
  have HE := Lib.hid hE
  clear hT hE
  go_enter Tryz.func8, Tryz.ntmps8
  go_wp2_with fail
  refine (awake5_any w HT.out HE.out).mono ?_
  rintro e W1 ⟨rfl, hb1⟩
  have HB1 := Lib.hid hb1
  clear hb1
  go_upto_region 5 with (fail)
  obtain ⟨hbb, hA⟩ := two_boxes W1 #[.int .i64 16, .int .i64 16, .int .i64 8, .int .i64 32] #[.int .i64 16] 3 3
  generalize ((W1.alloc (.cells #[.int .i64 16, .int .i64 16, .int .i64 8, .int .i64 32] 3)).alloc (.cells #[.int .i64 16] 3)) = W2 at *
  have HB2 := Lib.hid (HB1.out.trans (hbb.mono HB1.out.size))
  have HA := Lib.hid hA
  have HX : Hid (limNames limH1 limB1 16 ++ limR1 = limS 0 0) := Lib.hid rfl
  have s1 := limNames_size limH1 limB1 16
  have s2 := limNames_size limH2 limB2 16
  have s3 := limNames_size limH3 limB3 16
  have s4 := limNames_size limH4 limB4 16
  have hl1 : limH1.size = 8 := rfl
  have hl2 : limB1.size = 12 := rfl
  have hl3 : limH2.size = 1 := rfl
  have hl4 : limB2.size = 5 := rfl
  have hl5 : limH3.size = 6 := rfl
  have hl6 : limB3.size = 7 := rfl
  have hl7 : limH4.size = 1 := rfl
  have hl8 : limB4.size = 1 := rfl
  rw [hl1, hl2] at s1
  rw [hl3, hl4] at s2
  rw [hl5, hl6] at s3
  rw [hl7, hl8] at s4
  have K1 := Lib.hid (fun W h => limNames_any limH1 limB1 16 (by decide) (by decide) (by decide) (W1.heap.size + 1) W h)
  have K2 := Lib.hid (fun W h => limNames_any limH2 limB2 16 (by decide) (by decide) (by decide) (W1.heap.size + 1) W h)
  have K3 := Lib.hid (fun W h => limNames_any limH3 limB3 16 (by decide) (by decide) (by decide) (W1.heap.size + 1) W h)
  have K4 := Lib.hid (fun W h => limNames_any limH4 limB4 16 (by decide) (by decide) (by decide) (W1.heap.size + 1) W h)
  have HTX : Hid (limS 0 0 = limS 0 0) := Lib.hid rfl
  clear hbb hA HB1 hl1 hl2 hl3 hl4 hl5 hl6 hl7 hl8
  generalize limNames limH1 limB1 16 = N1 at *
  generalize limNames limH2 limB2 16 = N2 at *
  generalize limNames limH3 limB3 16 = N3 at *
  generalize limNames limH4 limB4 16 = N4 at *
  have hc1 : ¬ 9223372036854775807 < N1.size + 9 := by omega
  have hc2 : ¬ 9223372036854775807 < 11 + N2.size := by omega
  have hc3 : ¬ 9223372036854775807 < 11 + N2.size + 10 := by omega
  have hc4 : ¬ 9223372036854775807 < N3.size + 27 := by omega
  have hc5 : ¬ 9223372036854775807 < 9 + N4.size := by omega
  have hc6 : ¬ 9223372036854775807 < 9 + N4.size + 30 := by omega
  clear s1 s2 s3 s4
  go_wp2_with fail
  refine (K1.out W2 HA.out).mono ?_
  rintro e W3 ⟨rfl, hb3⟩
  have HB3 := Lib.hid (HB2.out.trans (hb3.mono HB2.out.size))
  have HA3 := Lib.hid (blk_below HA.out hb3 (blk_lt HA.out))
  clear hb3 HA HB2
  go_wp2_with fail
  refine (K2.out W3 HA3.out).mono ?_
  rintro e W4 ⟨rfl, hb4⟩
  have HB4 := Lib.hid (HB3.out.trans (hb4.mono HB3.out.size))
  have HA4 := Lib.hid (blk_below HA3.out hb4 (blk_lt HA3.out))
  clear hb4 HA3 HB3
  go_wp2_with fail
  refine (K3.out W4 HA4.out).mono ?_
  rintro e W5 ⟨rfl, hb5⟩
  have HB5 := Lib.hid (HB4.out.trans (hb5.mono HB4.out.size))
  have HA5 := Lib.hid (blk_below HA4.out hb5 (blk_lt HA4.out))
  clear hb5 HA4 HB4
  go_wp2_with fail
  refine (K4.out W5 HA5.out).mono ?_
  rintro e W6 ⟨rfl, hb6⟩
  have HB6 := Lib.hid (HB5.out.trans (hb6.mono HB5.out.size))
  clear hb6 HA5 HB5
  have hix := agg4_0
  go_upto_region 6 with (fail)
  clear hix
  rw [show (N1 ++ ⟨#[114, 111, 111, 116, 32, 88, 65, 97, 59]⟩ : ByteArray) = limS 0 0 from HX.out]
  have HM := Lib.hid lim_0_0
  have hts : (limS 0 0).size ≤ 9223372036854775807 := by rw [← HX.out]; simp only [ByteArray.size_append]; have q1 : limR1.size = 9 := rfl; have q2 : limL2.size = 11 := rfl; have q3 : limR2.size = 10 := rfl; have q4 : limR3.size = 27 := rfl; have q5 : limL4.size = 9 := rfl; have q6 : limR4.size = 30 := rfl; omega
  have HS := Lib.hid hts
  generalize limS 0 0 = T at *
  clear HX hts hc1 hc2 hc3 hc4 hc5 hc6 K1 K2 K3 K4 HTX
  go_wp2_with fail
  refine (read_any T W6 (HT.out.below (Nat.le_refl _) HB6.out) (HE.out.later HB6.out) HS.out).mono ?_
  rintro e W7 hp
  obtain ⟨ss, es, sa, sc, ea, ec, rt, code, pl, rfl, hr1, hs1, hb7⟩ := sch_form hp
  obtain ⟨rfl, hk, hf1, hf2⟩ := ok_says hs1 HM.out
  have HB7 := Lib.hid (HB6.out.trans (hb7.mono HB6.out.size))
  have HR7 := Lib.hid hr1
  clear hp hr1 hs1 hb7 HM
  have HK := Lib.hid hk
  have HF1 := Lib.hid hf1
  have HF2 := Lib.hid hf2
  clear hk hf1 hf2
  go_upto_region 7 with (fail)
  obtain ⟨hbb, hq1, hq2⟩ := two_blk W7 #[.slice sa ss.length sc, .slice ea es.length ec, .int .i64 rt] #[.int .i64 0, .int .i64 (pl : Nat)] 32 43
  generalize ((W7.alloc (.cells #[.slice sa ss.length sc, .slice ea es.length ec, .int .i64 rt] 32)).alloc (.cells #[.int .i64 0, .int .i64 (pl : Nat)] 43)) = W8 at *
  have HB8 := Lib.hid (HB7.out.trans (hbb.mono HB7.out.size))
  have hc := (HR7.out.below hbb).crows
  have HC := Lib.hid hc
  obtain ⟨_, p0, p1, p2, _⟩ := blk3 hq1
  obtain ⟨_, f0, f1, _⟩ := blk2 hq2
  clear hbb hq1 hq2 HB7 HR7 hc
  go_wp2_with fail
  refine (check_any W8 (rt : Int) HC.out HF1.out HF2.out (HT.out.below (Nat.le_refl _) HB8.out)).mono ?_
  rintro e W9 ⟨rfl, hb9⟩
  rw [HK.out]
  have HB9 := Lib.hid (HB8.out.trans (hb9.mono HB8.out.size))
  clear hb9 p0 p1 p2 f0 f1 HB8
  go_wp2_with fail
  refine (told5_any T W9 (HT.out.below (Nat.le_refl _) HB9.out) (HE.out.later HB9.out) HS.out).mono ?_
  rintro e W10 ⟨rfl, hb10⟩
  have HW := Lib.hid (HB9.out.trans (hb10.mono HB9.out.size))
  clear hb10
  go_wp2
  go_ret
  exact ⟨rfl, HW.out⟩
set_option maxRecDepth 100000 in
set_option maxHeartbeats 4000000 in
theorem limits_0_1 (what over : Int) (w : World) (hw : what.tmod 4 = 0) (ho : over.tmod 2 = 1) (hT : Tabs w) (hE : ErrV w) :
    Calls Tryz.prog 8 #[.int .u8 what, .int .u8 over] w fun e w' => e = .returned (.bool true) ∧ Below w.heap.size w w' := by
  have HT := Lib.hid hT
  have HE := Lib.hid hE
  clear hT hE
  go_enter Tryz.func8, Tryz.ntmps8
  go_wp2_with fail
  refine (awake5_any w HT.out HE.out).mono ?_
  rintro e W1 ⟨rfl, hb1⟩
  have HB1 := Lib.hid hb1
  clear hb1
  go_upto_region 5 with (fail)
  obtain ⟨hbb, hA⟩ := two_boxes W1 #[.int .i64 16, .int .i64 16, .int .i64 8, .int .i64 32] #[.int .i64 17] 3 3
  generalize ((W1.alloc (.cells #[.int .i64 16, .int .i64 16, .int .i64 8, .int .i64 32] 3)).alloc (.cells #[.int .i64 17] 3)) = W2 at *
  have HB2 := Lib.hid (HB1.out.trans (hbb.mono HB1.out.size))
  have HA := Lib.hid hA
  have HX : Hid (limNames limH1 limB1 17 ++ limR1 = limS 0 1) := Lib.hid rfl
  have s1 := limNames_size limH1 limB1 17
  have s2 := limNames_size limH2 limB2 17
  have s3 := limNames_size limH3 limB3 17
  have s4 := limNames_size limH4 limB4 17
  have hl1 : limH1.size = 8 := rfl
  have hl2 : limB1.size = 12 := rfl
  have hl3 : limH2.size = 1 := rfl
  have hl4 : limB2.size = 5 := rfl
  have hl5 : limH3.size = 6 := rfl
  have hl6 : limB3.size = 7 := rfl
  have hl7 : limH4.size = 1 := rfl
  have hl8 : limB4.size = 1 := rfl
  rw [hl1, hl2] at s1
  rw [hl3, hl4] at s2
  rw [hl5, hl6] at s3
  rw [hl7, hl8] at s4
  have K1 := Lib.hid (fun W h => limNames_any limH1 limB1 17 (by decide) (by decide) (by decide) (W1.heap.size + 1) W h)
  have K2 := Lib.hid (fun W h => limNames_any limH2 limB2 17 (by decide) (by decide) (by decide) (W1.heap.size + 1) W h)
  have K3 := Lib.hid (fun W h => limNames_any limH3 limB3 17 (by decide) (by decide) (by decide) (W1.heap.size + 1) W h)
  have K4 := Lib.hid (fun W h => limNames_any limH4 limB4 17 (by decide) (by decide) (by decide) (W1.heap.size + 1) W h)
  have HTX : Hid (limS 0 1 = limS 0 1) := Lib.hid rfl
  clear hbb hA HB1 hl1 hl2 hl3 hl4 hl5 hl6 hl7 hl8
  generalize limNames limH1 limB1 17 = N1 at *
  generalize limNames limH2 limB2 17 = N2 at *
  generalize limNames limH3 limB3 17 = N3 at *
  generalize limNames limH4 limB4 17 = N4 at *
  have hc1 : ¬ 9223372036854775807 < N1.size + 9 := by omega
  have hc2 : ¬ 9223372036854775807 < 11 + N2.size := by omega
  have hc3 : ¬ 9223372036854775807 < 11 + N2.size + 10 := by omega
  have hc4 : ¬ 9223372036854775807 < N3.size + 27 := by omega
  have hc5 : ¬ 9223372036854775807 < 9 + N4.size := by omega
  have hc6 : ¬ 9223372036854775807 < 9 + N4.size + 30 := by omega
  clear s1 s2 s3 s4
  go_wp2_with fail
  refine (K1.out W2 HA.out).mono ?_
  rintro e W3 ⟨rfl, hb3⟩
  have HB3 := Lib.hid (HB2.out.trans (hb3.mono HB2.out.size))
  have HA3 := Lib.hid (blk_below HA.out hb3 (blk_lt HA.out))
  clear hb3 HA HB2
  go_wp2_with fail
  refine (K2.out W3 HA3.out).mono ?_
  rintro e W4 ⟨rfl, hb4⟩
  have HB4 := Lib.hid (HB3.out.trans (hb4.mono HB3.out.size))
  have HA4 := Lib.hid (blk_below HA3.out hb4 (blk_lt HA3.out))
  clear hb4 HA3 HB3
  go_wp2_with fail
  refine (K3.out W4 HA4.out).mono ?_
  rintro e W5 ⟨rfl, hb5⟩
  have HB5 := Lib.hid (HB4.out.trans (hb5.mono HB4.out.size))
  have HA5 := Lib.hid (blk_below HA4.out hb5 (blk_lt HA4.out))
  clear hb5 HA4 HB4
  go_wp2_with fail
  refine (K4.out W5 HA5.out).mono ?_
  rintro e W6 ⟨rfl, hb6⟩
  have HB6 := Lib.hid (HB5.out.trans (hb6.mono HB5.out.size))
  clear hb6 HA5 HB5
  have hix := agg4_0
  go_upto_region 6 with (fail)
  clear hix
  rw [show (N1 ++ ⟨#[114, 111, 111, 116, 32, 88, 65, 97, 59]⟩ : ByteArray) = limS 0 1 from HX.out]
  have HM := Lib.hid lim_0_1
  have hts : (limS 0 1).size ≤ 9223372036854775807 := by rw [← HX.out]; simp only [ByteArray.size_append]; have q1 : limR1.size = 9 := rfl; have q2 : limL2.size = 11 := rfl; have q3 : limR2.size = 10 := rfl; have q4 : limR3.size = 27 := rfl; have q5 : limL4.size = 9 := rfl; have q6 : limR4.size = 30 := rfl; omega
  have HS := Lib.hid hts
  generalize limS 0 1 = T at *
  clear HX hts hc1 hc2 hc3 hc4 hc5 hc6 K1 K2 K3 K4 HTX
  go_wp2_with fail
  refine (read_any T W6 (HT.out.below (Nat.le_refl _) HB6.out) (HE.out.later HB6.out) HS.out).mono ?_
  rintro e W7 hp
  obtain ⟨ss, es, sa, sc, ea, ec, rt, code, pl, rfl, hr1, hs1, hb7⟩ := sch_form hp
  obtain ⟨rfl, rfl⟩ := no_says hs1 HM.out
  have HB7 := Lib.hid (HB6.out.trans (hb7.mono HB6.out.size))
  have HW := Lib.hid ((HB7.out.alloc HB7.out.size (.cells #[.slice sa 0 sc, .slice ea es.length ec, .int .i64 rt] 32)).alloc (by have := HB7.out.size; simp; omega) (.cells #[.int .i64 16, .int .i64 (pl : Nat)] 43))
  clear hp hr1 hs1 hb7 HM
  simp only [List.length_nil] at *
  go_wp2
  go_ret
  exact ⟨rfl, HW.out⟩
set_option maxRecDepth 100000 in
set_option maxHeartbeats 4000000 in
theorem limits_1_0 (what over : Int) (w : World) (hw : what.tmod 4 = 1) (ho : over.tmod 2 = 0) (hT : Tabs w) (hE : ErrV w) :
    Calls Tryz.prog 8 #[.int .u8 what, .int .u8 over] w fun e w' => e = .returned (.bool true) ∧ Below w.heap.size w w' := by
  have HT := Lib.hid hT
  have HE := Lib.hid hE
  clear hT hE
  go_enter Tryz.func8, Tryz.ntmps8
  go_wp2_with fail
  refine (awake5_any w HT.out HE.out).mono ?_
  rintro e W1 ⟨rfl, hb1⟩
  have HB1 := Lib.hid hb1
  clear hb1
  go_upto_region 5 with (fail)
  obtain ⟨hbb, hA⟩ := two_boxes W1 #[.int .i64 16, .int .i64 16, .int .i64 8, .int .i64 32] #[.int .i64 16] 3 3
  generalize ((W1.alloc (.cells #[.int .i64 16, .int .i64 16, .int .i64 8, .int .i64 32] 3)).alloc (.cells #[.int .i64 16] 3)) = W2 at *
  have HB2 := Lib.hid (HB1.out.trans (hbb.mono HB1.out.size))
  have HA := Lib.hid hA
  have HX : Hid (limL2 ++ limNames limH2 limB2 16 ++ limR2 = limS 1 0) := Lib.hid rfl
  have s1 := limNames_size limH1 limB1 16
  have s2 := limNames_size limH2 limB2 16
  have s3 := limNames_size limH3 limB3 16
  have s4 := limNames_size limH4 limB4 16
  have hl1 : limH1.size = 8 := rfl
  have hl2 : limB1.size = 12 := rfl
  have hl3 : limH2.size = 1 := rfl
  have hl4 : limB2.size = 5 := rfl
  have hl5 : limH3.size = 6 := rfl
  have hl6 : limB3.size = 7 := rfl
  have hl7 : limH4.size = 1 := rfl
  have hl8 : limB4.size = 1 := rfl
  rw [hl1, hl2] at s1
  rw [hl3, hl4] at s2
  rw [hl5, hl6] at s3
  rw [hl7, hl8] at s4
  have K1 := Lib.hid (fun W h => limNames_any limH1 limB1 16 (by decide) (by decide) (by decide) (W1.heap.size + 1) W h)
  have K2 := Lib.hid (fun W h => limNames_any limH2 limB2 16 (by decide) (by decide) (by decide) (W1.heap.size + 1) W h)
  have K3 := Lib.hid (fun W h => limNames_any limH3 limB3 16 (by decide) (by decide) (by decide) (W1.heap.size + 1) W h)
  have K4 := Lib.hid (fun W h => limNames_any limH4 limB4 16 (by decide) (by decide) (by decide) (W1.heap.size + 1) W h)
  have HTX : Hid (limS 1 0 = limS 1 0) := Lib.hid rfl
  clear hbb hA HB1 hl1 hl2 hl3 hl4 hl5 hl6 hl7 hl8
  generalize limNames limH1 limB1 16 = N1 at *
  generalize limNames limH2 limB2 16 = N2 at *
  generalize limNames limH3 limB3 16 = N3 at *
  generalize limNames limH4 limB4 16 = N4 at *
  have hc1 : ¬ 9223372036854775807 < N1.size + 9 := by omega
  have hc2 : ¬ 9223372036854775807 < 11 + N2.size := by omega
  have hc3 : ¬ 9223372036854775807 < 11 + N2.size + 10 := by omega
  have hc4 : ¬ 9223372036854775807 < N3.size + 27 := by omega
  have hc5 : ¬ 9223372036854775807 < 9 + N4.size := by omega
  have hc6 : ¬ 9223372036854775807 < 9 + N4.size + 30 := by omega
  clear s1 s2 s3 s4
  go_wp2_with fail
  refine (K1.out W2 HA.out).mono ?_
  rintro e W3 ⟨rfl, hb3⟩
  have HB3 := Lib.hid (HB2.out.trans (hb3.mono HB2.out.size))
  have HA3 := Lib.hid (blk_below HA.out hb3 (blk_lt HA.out))
  clear hb3 HA HB2
  go_wp2_with fail
  refine (K2.out W3 HA3.out).mono ?_
  rintro e W4 ⟨rfl, hb4⟩
  have HB4 := Lib.hid (HB3.out.trans (hb4.mono HB3.out.size))
  have HA4 := Lib.hid (blk_below HA3.out hb4 (blk_lt HA3.out))
  clear hb4 HA3 HB3
  go_wp2_with fail
  refine (K3.out W4 HA4.out).mono ?_
  rintro e W5 ⟨rfl, hb5⟩
  have HB5 := Lib.hid (HB4.out.trans (hb5.mono HB4.out.size))
  have HA5 := Lib.hid (blk_below HA4.out hb5 (blk_lt HA4.out))
  clear hb5 HA4 HB4
  go_wp2_with fail
  refine (K4.out W5 HA5.out).mono ?_
  rintro e W6 ⟨rfl, hb6⟩
  have HB6 := Lib.hid (HB5.out.trans (hb6.mono HB5.out.size))
  clear hb6 HA5 HB5
  have hix := agg4_1
  go_upto_region 6 with (fail)
  clear hix
  rw [show (⟨#[115, 116, 114, 117, 99, 116, 32, 83, 32, 123, 32]⟩ ++ N2 ++ ⟨#[32, 125, 32, 114, 111, 111, 116, 32, 83, 59]⟩ : ByteArray) = limS 1 0 from HX.out]
  have HM := Lib.hid lim_1_0
  have hts : (limS 1 0).size ≤ 9223372036854775807 := by rw [← HX.out]; simp only [ByteArray.size_append]; have q1 : limR1.size = 9 := rfl; have q2 : limL2.size = 11 := rfl; have q3 : limR2.size = 10 := rfl; have q4 : limR3.size = 27 := rfl; have q5 : limL4.size = 9 := rfl; have q6 : limR4.size = 30 := rfl; omega
  have HS := Lib.hid hts
  generalize limS 1 0 = T at *
  clear HX hts hc1 hc2 hc3 hc4 hc5 hc6 K1 K2 K3 K4 HTX
  go_wp2_with fail
  refine (read_any T W6 (HT.out.below (Nat.le_refl _) HB6.out) (HE.out.later HB6.out) HS.out).mono ?_
  rintro e W7 hp
  obtain ⟨ss, es, sa, sc, ea, ec, rt, code, pl, rfl, hr1, hs1, hb7⟩ := sch_form hp
  obtain ⟨rfl, hk, hf1, hf2⟩ := ok_says hs1 HM.out
  have HB7 := Lib.hid (HB6.out.trans (hb7.mono HB6.out.size))
  have HR7 := Lib.hid hr1
  clear hp hr1 hs1 hb7 HM
  have HK := Lib.hid hk
  have HF1 := Lib.hid hf1
  have HF2 := Lib.hid hf2
  clear hk hf1 hf2
  go_upto_region 7 with (fail)
  obtain ⟨hbb, hq1, hq2⟩ := two_blk W7 #[.slice sa ss.length sc, .slice ea es.length ec, .int .i64 rt] #[.int .i64 0, .int .i64 (pl : Nat)] 32 43
  generalize ((W7.alloc (.cells #[.slice sa ss.length sc, .slice ea es.length ec, .int .i64 rt] 32)).alloc (.cells #[.int .i64 0, .int .i64 (pl : Nat)] 43)) = W8 at *
  have HB8 := Lib.hid (HB7.out.trans (hbb.mono HB7.out.size))
  have hc := (HR7.out.below hbb).crows
  have HC := Lib.hid hc
  obtain ⟨_, p0, p1, p2, _⟩ := blk3 hq1
  obtain ⟨_, f0, f1, _⟩ := blk2 hq2
  clear hbb hq1 hq2 HB7 HR7 hc
  go_wp2_with fail
  refine (check_any W8 (rt : Int) HC.out HF1.out HF2.out (HT.out.below (Nat.le_refl _) HB8.out)).mono ?_
  rintro e W9 ⟨rfl, hb9⟩
  rw [HK.out]
  have HB9 := Lib.hid (HB8.out.trans (hb9.mono HB8.out.size))
  clear hb9 p0 p1 p2 f0 f1 HB8
  go_wp2_with fail
  refine (told5_any T W9 (HT.out.below (Nat.le_refl _) HB9.out) (HE.out.later HB9.out) HS.out).mono ?_
  rintro e W10 ⟨rfl, hb10⟩
  have HW := Lib.hid (HB9.out.trans (hb10.mono HB9.out.size))
  clear hb10
  go_wp2
  go_ret
  exact ⟨rfl, HW.out⟩
set_option maxRecDepth 100000 in
set_option maxHeartbeats 4000000 in
theorem limits_1_1 (what over : Int) (w : World) (hw : what.tmod 4 = 1) (ho : over.tmod 2 = 1) (hT : Tabs w) (hE : ErrV w) :
    Calls Tryz.prog 8 #[.int .u8 what, .int .u8 over] w fun e w' => e = .returned (.bool true) ∧ Below w.heap.size w w' := by
  have HT := Lib.hid hT
  have HE := Lib.hid hE
  clear hT hE
  go_enter Tryz.func8, Tryz.ntmps8
  go_wp2_with fail
  refine (awake5_any w HT.out HE.out).mono ?_
  rintro e W1 ⟨rfl, hb1⟩
  have HB1 := Lib.hid hb1
  clear hb1
  go_upto_region 5 with (fail)
  obtain ⟨hbb, hA⟩ := two_boxes W1 #[.int .i64 16, .int .i64 16, .int .i64 8, .int .i64 32] #[.int .i64 17] 3 3
  generalize ((W1.alloc (.cells #[.int .i64 16, .int .i64 16, .int .i64 8, .int .i64 32] 3)).alloc (.cells #[.int .i64 17] 3)) = W2 at *
  have HB2 := Lib.hid (HB1.out.trans (hbb.mono HB1.out.size))
  have HA := Lib.hid hA
  have HX : Hid (limL2 ++ limNames limH2 limB2 17 ++ limR2 = limS 1 1) := Lib.hid rfl
  have s1 := limNames_size limH1 limB1 17
  have s2 := limNames_size limH2 limB2 17
  have s3 := limNames_size limH3 limB3 17
  have s4 := limNames_size limH4 limB4 17
  have hl1 : limH1.size = 8 := rfl
  have hl2 : limB1.size = 12 := rfl
  have hl3 : limH2.size = 1 := rfl
  have hl4 : limB2.size = 5 := rfl
  have hl5 : limH3.size = 6 := rfl
  have hl6 : limB3.size = 7 := rfl
  have hl7 : limH4.size = 1 := rfl
  have hl8 : limB4.size = 1 := rfl
  rw [hl1, hl2] at s1
  rw [hl3, hl4] at s2
  rw [hl5, hl6] at s3
  rw [hl7, hl8] at s4
  have K1 := Lib.hid (fun W h => limNames_any limH1 limB1 17 (by decide) (by decide) (by decide) (W1.heap.size + 1) W h)
  have K2 := Lib.hid (fun W h => limNames_any limH2 limB2 17 (by decide) (by decide) (by decide) (W1.heap.size + 1) W h)
  have K3 := Lib.hid (fun W h => limNames_any limH3 limB3 17 (by decide) (by decide) (by decide) (W1.heap.size + 1) W h)
  have K4 := Lib.hid (fun W h => limNames_any limH4 limB4 17 (by decide) (by decide) (by decide) (W1.heap.size + 1) W h)
  have HTX : Hid (limS 1 1 = limS 1 1) := Lib.hid rfl
  clear hbb hA HB1 hl1 hl2 hl3 hl4 hl5 hl6 hl7 hl8
  generalize limNames limH1 limB1 17 = N1 at *
  generalize limNames limH2 limB2 17 = N2 at *
  generalize limNames limH3 limB3 17 = N3 at *
  generalize limNames limH4 limB4 17 = N4 at *
  have hc1 : ¬ 9223372036854775807 < N1.size + 9 := by omega
  have hc2 : ¬ 9223372036854775807 < 11 + N2.size := by omega
  have hc3 : ¬ 9223372036854775807 < 11 + N2.size + 10 := by omega
  have hc4 : ¬ 9223372036854775807 < N3.size + 27 := by omega
  have hc5 : ¬ 9223372036854775807 < 9 + N4.size := by omega
  have hc6 : ¬ 9223372036854775807 < 9 + N4.size + 30 := by omega
  clear s1 s2 s3 s4
  go_wp2_with fail
  refine (K1.out W2 HA.out).mono ?_
  rintro e W3 ⟨rfl, hb3⟩
  have HB3 := Lib.hid (HB2.out.trans (hb3.mono HB2.out.size))
  have HA3 := Lib.hid (blk_below HA.out hb3 (blk_lt HA.out))
  clear hb3 HA HB2
  go_wp2_with fail
  refine (K2.out W3 HA3.out).mono ?_
  rintro e W4 ⟨rfl, hb4⟩
  have HB4 := Lib.hid (HB3.out.trans (hb4.mono HB3.out.size))
  have HA4 := Lib.hid (blk_below HA3.out hb4 (blk_lt HA3.out))
  clear hb4 HA3 HB3
  go_wp2_with fail
  refine (K3.out W4 HA4.out).mono ?_
  rintro e W5 ⟨rfl, hb5⟩
  have HB5 := Lib.hid (HB4.out.trans (hb5.mono HB4.out.size))
  have HA5 := Lib.hid (blk_below HA4.out hb5 (blk_lt HA4.out))
  clear hb5 HA4 HB4
  go_wp2_with fail
  refine (K4.out W5 HA5.out).mono ?_
  rintro e W6 ⟨rfl, hb6⟩
  have HB6 := Lib.hid (HB5.out.trans (hb6.mono HB5.out.size))
  clear hb6 HA5 HB5
  have hix := agg4_1
  go_upto_region 6 with (fail)
  clear hix
  rw [show (⟨#[115, 116, 114, 117, 99, 116, 32, 83, 32, 123, 32]⟩ ++ N2 ++ ⟨#[32, 125, 32, 114, 111, 111, 116, 32, 83, 59]⟩ : ByteArray) = limS 1 1 from HX.out]
  have HM := Lib.hid lim_1_1
  have hts : (limS 1 1).size ≤ 9223372036854775807 := by rw [← HX.out]; simp only [ByteArray.size_append]; have q1 : limR1.size = 9 := rfl; have q2 : limL2.size = 11 := rfl; have q3 : limR2.size = 10 := rfl; have q4 : limR3.size = 27 := rfl; have q5 : limL4.size = 9 := rfl; have q6 : limR4.size = 30 := rfl; omega
  have HS := Lib.hid hts
  generalize limS 1 1 = T at *
  clear HX hts hc1 hc2 hc3 hc4 hc5 hc6 K1 K2 K3 K4 HTX
  go_wp2_with fail
  refine (read_any T W6 (HT.out.below (Nat.le_refl _) HB6.out) (HE.out.later HB6.out) HS.out).mono ?_
  rintro e W7 hp
  obtain ⟨ss, es, sa, sc, ea, ec, rt, code, pl, rfl, hr1, hs1, hb7⟩ := sch_form hp
  obtain ⟨rfl, rfl⟩ := no_says hs1 HM.out
  have HB7 := Lib.hid (HB6.out.trans (hb7.mono HB6.out.size))
  have HW := Lib.hid ((HB7.out.alloc HB7.out.size (.cells #[.slice sa 0 sc, .slice ea es.length ec, .int .i64 rt] 32)).alloc (by have := HB7.out.size; simp; omega) (.cells #[.int .i64 16, .int .i64 (pl : Nat)] 43))
  clear hp hr1 hs1 hb7 HM
  simp only [List.length_nil] at *
  go_wp2
  go_ret
  exact ⟨rfl, HW.out⟩
end Go.Proofs.YtleclhnlojalbaaGreatDoor
