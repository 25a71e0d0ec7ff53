/-
  The law LexBack returns true at all numbers: a walk over the callees' contracts. Condition: the library's tables and its variable ErrRange hold what the row lists.
-/
import Derived.Test.YtfnopliggdemaaaDoorLAwake
import Derived.Test.YtfnopliggdemaaaDoorDecimal
import Derived.Test.YtfnopliggdemaaaDoorFits
namespace Go.Proofs.YtfnopliggdemaaaDoor
open Go.ChangeShapes Go.WideShapes Go.ChangeAt Go.RowKit Go.Shelf

/-- Is a number one of so many bytes with a sign? -/
def sfits (n : Nat) (size : Int) : Prop := (n : Int) < span size / 2 ∨ 18446744073709551616 - span size / 2 ≤ (n : Int)
theorem size_of_dec {s : ByteArray} {n : Nat} (hn : n ≤ maxU) (h : bts s = decDigs n) : s.size ≤ 281474976710656 := by
  have h3 := congrArg List.length h
  have h4 := (decDigs_length hn).2
  rw [bts_length] at h3
  omega
/-- The contract of Number at a number's digits. -/
theorem back_plain (s : ByteArray) (n : Nat) (hn : (n : Int) ≤ 18446744073709551615) (h : bts s = decDigs n) (size : Int) (hs : sizedB size = true) (w : World) (hE : ErrV w) :
    Calls Tryd.prog 12 #[.string s, .int .i64 size, .bool false] w fun e w' => e = .returned (numR (if (n : Int) < span size then some n else none)) ∧ Below w.heap.size w w' := by
  have hx := lexNumber_any s size false w hE (size_of_dec (Int.ofNat_le.1 hn) h)
  rw [h, numV_dec (Int.ofNat_le.1 hn) size hs] at hx
  exact hx
theorem back_pos (s : ByteArray) (n : Nat) (hn : (n : Int) ≤ 9223372036854775807) (h : bts s = decDigs n) (size : Int) (hs : sizedB size = true) (w : World) (hE : ErrV w) :
    Calls Tryd.prog 12 #[.string s, .int .i64 size, .bool true] w fun e w' => e = .returned (numR (if (n : Int) < span size / 2 then some n else none)) ∧ Below w.heap.size w w' := by
  have hn' : n ≤ maxU := Int.ofNat_le.1 (by have : ((maxU : Nat) : Int) = 18446744073709551615 := rfl
                                            omega)
  have hx := lexNumber_any s size true w hE (size_of_dec hn' h)
  rw [h, numV_sig hn' size hs] at hx
  exact hx
theorem back_neg (s : ByteArray) (n : Nat) (h1 : (9223372036854775808 : Int) ≤ n) (h2 : (n : Int) ≤ 18446744073709551615) (h : bts s = 45 :: decDigs (18446744073709551616 - n)) (size : Int) (hs : sizedB size = true) (w : World) (hE : ErrV w) :
    Calls Tryd.prog 12 #[.string s, .int .i64 size, .bool true] w fun e w' => e = .returned (numR (if 18446744073709551616 - span size / 2 ≤ (n : Int) then some n else none)) ∧ Below w.heap.size w w' := by
  have hv : (18446744073709551616 - n) ≤ maxU := Int.ofNat_le.1 (by have : ((maxU : Nat) : Int) = 18446744073709551615 := rfl
                                                                    omega)
  have hl : s.size ≤ 281474976710656 := by
    have h3 := congrArg List.length h
    have h4 := (decDigs_length hv).2
    rw [bts_length, List.length_cons] at h3
    omega
  have hx := lexNumber_any s size true w hE hl
  rw [h, numV_neg hv (by omega) size hs] at hx
  have e1 : (18446744073709551616 - (18446744073709551616 - n)) % 18446744073709551616 = n := by omega
  have e2 : (((18446744073709551616 - n : Nat) : Int) ≤ span size / 2) = (18446744073709551616 - span size / 2 ≤ (n : Int)) := by
    rw [eq_iff_iff]
    omega
  rw [e1, show (if ((18446744073709551616 - n : Nat) : Int) ≤ span size / 2 then some n else none) = (if 18446744073709551616 - span size / 2 ≤ (n : Int) then some n else none) from by simp only [e2]] at hx
  exact hx
/-- The contract of Number at a number's digits with a sign: one form for both. -/
theorem back_signed (n : Nat) (hn : (n : Int) ≤ 18446744073709551615) (w0 : World) :
    Calls Tryd.prog 14 #[.int .u64 n, .bool true] w0 (StrIs (fun s => ∀ size, sizedB size = true → ∀ w, ErrV w →
      Calls Tryd.prog 12 #[.string s, .int .i64 size, .bool true] w fun e w' => (∃ r : Option Nat, e = .returned (numR r) ∧ (sfits n size → r = some n) ∧ (¬ sfits n size → r = none)) ∧ Below w.heap.size w w') w0) := by
  by_cases h : (9223372036854775808 : Int) ≤ n
  · refine (decimal_neg n w0 h hn).mono fun e w' ⟨s, he, hs, hb⟩ => ⟨s, he, fun size hz w hE => ?_, hb⟩
    refine (back_neg s n h hn hs size hz w hE).mono fun e w' ⟨he, hb⟩ => ⟨⟨_, he, ?_, ?_⟩, hb⟩
    · rintro (hh | hh)
      · rw [if_pos]
        have hsp : span size ≤ 18446744073709551616 := by unfold span; split <;> (try split) <;> (try split) <;> decide
        omega
      · rw [if_pos hh]
    · intro hh
      rw [if_neg (fun h2 => hh (.inr h2))]
  · refine (decimal_pos n w0 (by omega)).mono fun e w' ⟨s, he, hs, hb⟩ => ⟨s, he, fun size hz w hE => ?_, hb⟩
    refine (back_pos s n (by omega) hs size hz w hE).mono fun e w' ⟨he, hb⟩ => ⟨⟨_, he, ?_, ?_⟩, hb⟩
    · rintro (hh | hh)
      · rw [if_pos hh]
      · rw [if_pos]
        have hsp : span size ≤ 18446744073709551616 := by unfold span; split <;> (try split) <;> (try split) <;> decide
        omega
    · intro hh
      rw [if_neg (fun h2 => hh (.inl h2))]
theorem wrap64_lo (n : Nat) (h : (n : Int) < 9223372036854775808) : wrap64 (n : Int) = n := by
  unfold wrap64
  omega
theorem wrap64_hi (n : Nat) (h : (9223372036854775808 : Int) ≤ n) (h2 : (n : Int) ≤ 18446744073709551615) : wrap64 (n : Int) = n - 18446744073709551616 := by
  unfold wrap64
  omega
theorem high_1 (n : Nat) (hn : (n : Int) ≤ 18446744073709551615) : (sfits n 1 ∧ (wrap64 (n : Int) / 128 == 0) = true) ∨ (sfits n 1 ∧ (wrap64 (n : Int) / 128 == 0) = false ∧ (wrap64 (n : Int) / 128 == -1) = true) ∨ (¬ sfits n 1 ∧ (wrap64 (n : Int) / 128 == 0) = false ∧ (wrap64 (n : Int) / 128 == -1) = false) := by
  unfold sfits
  rw [half_1, beq_iff_eq, beq_iff_eq, beq_eq_false_iff_ne, beq_eq_false_iff_ne]
  by_cases h : (n : Int) < 9223372036854775808
  · rw [wrap64_lo n h]
    omega
  · rw [wrap64_hi n (by omega) hn]
    omega
theorem high_2 (n : Nat) (hn : (n : Int) ≤ 18446744073709551615) : (sfits n 2 ∧ (wrap64 (n : Int) / 32768 == 0) = true) ∨ (sfits n 2 ∧ (wrap64 (n : Int) / 32768 == 0) = false ∧ (wrap64 (n : Int) / 32768 == -1) = true) ∨ (¬ sfits n 2 ∧ (wrap64 (n : Int) / 32768 == 0) = false ∧ (wrap64 (n : Int) / 32768 == -1) = false) := by
  unfold sfits
  rw [half_2, beq_iff_eq, beq_iff_eq, beq_eq_false_iff_ne, beq_eq_false_iff_ne]
  by_cases h : (n : Int) < 9223372036854775808
  · rw [wrap64_lo n h]
    omega
  · rw [wrap64_hi n (by omega) hn]
    omega
theorem high_4 (n : Nat) (hn : (n : Int) ≤ 18446744073709551615) : (sfits n 4 ∧ (wrap64 (n : Int) / 2147483648 == 0) = true) ∨ (sfits n 4 ∧ (wrap64 (n : Int) / 2147483648 == 0) = false ∧ (wrap64 (n : Int) / 2147483648 == -1) = true) ∨ (¬ sfits n 4 ∧ (wrap64 (n : Int) / 2147483648 == 0) = false ∧ (wrap64 (n : Int) / 2147483648 == -1) = false) := by
  unfold sfits
  rw [half_4, beq_iff_eq, beq_iff_eq, beq_eq_false_iff_ne, beq_eq_false_iff_ne]
  by_cases h : (n : Int) < 9223372036854775808
  · rw [wrap64_lo n h]
    omega
  · rw [wrap64_hi n (by omega) hn]
    omega
theorem high_8 (n : Nat) (hn : (n : Int) ≤ 18446744073709551615) : (sfits n 8 ∧ (wrap64 (n : Int) / 9223372036854775808 == 0) = true) ∨ (sfits n 8 ∧ (wrap64 (n : Int) / 9223372036854775808 == 0) = false ∧ (wrap64 (n : Int) / 9223372036854775808 == -1) = true) ∨ (¬ sfits n 8 ∧ (wrap64 (n : Int) / 9223372036854775808 == 0) = false ∧ (wrap64 (n : Int) / 9223372036854775808 == -1) = false) := by
  unfold sfits
  rw [half_8, beq_iff_eq, beq_iff_eq, beq_eq_false_iff_ne, beq_eq_false_iff_ne]
  by_cases h : (n : Int) < 9223372036854775808
  · rw [wrap64_lo n h]
    omega
  · rw [wrap64_hi n (by omega) hn]
    omega
set_option maxRecDepth 100000 in
set_option maxHeartbeats 1600000 in
theorem lexBack_walk (n0 : Int) (w : World) (hw : (Lit.int .u64 n0).wf = true) (hT : Tabs w) (hE : ErrV w) :
    Calls Tryd.prog 5 #[.int .u64 n0] w fun e w' => e = .returned (.bool true) ∧ Below w.heap.size w w' := by
  obtain ⟨hn0, hn1⟩ := bounds_u64 hw
  obtain ⟨n, rfl⟩ := Int.eq_ofNat_of_zero_le hn0
  clear hw hn0
  have hn : (n : Int) ≤ 18446744073709551615 := by omega
  have HA := Lib.hid (awake_any w hT hE)
  have HE := Lib.hid hE
  have HN := Lib.hid hn
  clear hT hE hn1
  go_enter Tryd.func5, Tryd.ntmps5
  go_wp2_with fail
  refine HA.out.mono ?_
  rintro e W1 ⟨rfl, hb1⟩
  have HB1 := Lib.hid hb1
  clear hb1
  go_wp2_with fail
  refine (decimal_plain n W1 HN.out).mono ?_
  rintro e W2 ⟨sp, rfl, hsp, hb2⟩
  have HB2 := Lib.hid (HB1.out.trans (hb2.mono HB1.out.size))
  have HSP := Lib.hid hsp
  clear hb2 hsp
  go_wp2_with fail
  refine (back_signed n HN.out W2).mono ?_
  rintro e W3 ⟨ss, rfl, hss, hb3⟩
  have HB3 := Lib.hid (HB2.out.trans (hb3.mono HB2.out.size))
  have HSS := Lib.hid hss
  clear hb3 hss
  go_wp2
  go_loopw [22] (fun i wr => Below (W3.heap.size + 1) (W3.alloc (.cells #[.int .i64 1, .int .i64 2, .int .i64 4, .int .i64 8] 3)) wr ∧ ∃ k : Nat, k ≤ 4 ∧ i = .int .i64 k) (fun i _ => 4 - (intOf i).toNat)
  case atStart => exact ⟨Below.refl _ _, 0, by omega, rfl⟩
  case round =>
    obtain ⟨hb, k, hk, rfl⟩ := hrel
    have hb' : Below w.heap.size w wr := (HB3.out.alloc HB3.out.size _).trans (hb.mono (by have := HB3.out.size; omega))
    have HB := Lib.hid hb
    have HBW := Lib.hid hb'
    have hblk := (hb.block W3.heap.size (by omega)).trans (heap_alloc_new W3 _)
    have g0 := cell_of_row wr W3.heap.size 0 _ _ (0, 0) hblk
    have g1 := cell_of_row wr W3.heap.size 1 _ _ (0, 0) hblk
    have g2 := cell_of_row wr W3.heap.size 2 _ _ (0, 0) hblk
    have g3 := cell_of_row wr W3.heap.size 3 _ _ (0, 0) hblk
    clear hb hb' hblk
    obtain rfl | rfl | rfl | rfl | rfl : k = 0 ∨ k = 1 ∨ k = 2 ∨ k = 3 ∨ k = 4 := by omega
    · go_wp2_with fail
      refine (back_plain sp n HN.out HSP.out 1 rfl _ (HE.out.later HBW.out)).mono ?_
      rintro e W4 ⟨rfl, hb4⟩
      have HB4 := Lib.hid hb4
      clear hb4
      by_cases hf : (n : Int) < span 1
      · rw [if_pos hf]
        have tq : ((n : Int) / 256 == 0) = true := by rw [fits_un n 1 256 span_1 (by decide) (by omega)]; unfold fitsB; rw [if_neg (by decide)]; simp [hf]
        clear hf
        simp only [numR]
        go_wp2_with fail
        refine (HSS.out 1 rfl _ (HE.out.later (HBW.out.trans (HB4.out.mono HBW.out.size)))).mono ?_
        rintro e W5 ⟨⟨r, rfl, hy, hz⟩, hb5⟩
        have HB5 := Lib.hid (HB4.out.trans (hb5.mono HB4.out.size))
        have HY := Lib.hid hy
        have HZ := Lib.hid hz
        clear hb5 hy hz
        obtain ⟨hs, t0⟩ | ⟨hs, t0, t1⟩ | ⟨hs, t0, t1⟩ := high_1 n HN.out
        · obtain rfl := HY.out hs
          clear hs
          simp only [numR]
          go_wp2
          go_roundw
          case rel => exact ⟨HB.out.trans (HB5.out.mono (by have := HB.out.size; exact Nat.le_trans (by simp) this)), 0 + 1, by omega, rfl⟩
          case measure => simp [intOf]
        · obtain rfl := HY.out hs
          clear hs
          simp only [numR]
          go_wp2
          go_roundw
          case rel => exact ⟨HB.out.trans (HB5.out.mono (by have := HB.out.size; exact Nat.le_trans (by simp) this)), 0 + 1, by omega, rfl⟩
          case measure => simp [intOf]
        · obtain rfl := HZ.out hs
          clear hs
          simp only [numR]
          go_wp2
          go_roundw
          case rel => exact ⟨HB.out.trans (HB5.out.mono (by have := HB.out.size; exact Nat.le_trans (by simp) this)), 0 + 1, by omega, rfl⟩
          case measure => simp [intOf]
      · rw [if_neg hf]
        have tq : ((n : Int) / 256 == 0) = false := by rw [fits_un n 1 256 span_1 (by decide) (by omega)]; unfold fitsB; rw [if_neg (by decide)]; simp [hf]
        clear hf
        simp only [numR]
        go_wp2_with fail
        refine (HSS.out 1 rfl _ (HE.out.later (HBW.out.trans (HB4.out.mono HBW.out.size)))).mono ?_
        rintro e W5 ⟨⟨r, rfl, hy, hz⟩, hb5⟩
        have HB5 := Lib.hid (HB4.out.trans (hb5.mono HB4.out.size))
        have HY := Lib.hid hy
        have HZ := Lib.hid hz
        clear hb5 hy hz
        obtain ⟨hs, t0⟩ | ⟨hs, t0, t1⟩ | ⟨hs, t0, t1⟩ := high_1 n HN.out
        · obtain rfl := HY.out hs
          clear hs
          simp only [numR]
          go_wp2
          go_roundw
          case rel => exact ⟨HB.out.trans (HB5.out.mono (by have := HB.out.size; exact Nat.le_trans (by simp) this)), 0 + 1, by omega, rfl⟩
          case measure => simp [intOf]
        · obtain rfl := HY.out hs
          clear hs
          simp only [numR]
          go_wp2
          go_roundw
          case rel => exact ⟨HB.out.trans (HB5.out.mono (by have := HB.out.size; exact Nat.le_trans (by simp) this)), 0 + 1, by omega, rfl⟩
          case measure => simp [intOf]
        · obtain rfl := HZ.out hs
          clear hs
          simp only [numR]
          go_wp2
          go_roundw
          case rel => exact ⟨HB.out.trans (HB5.out.mono (by have := HB.out.size; exact Nat.le_trans (by simp) this)), 0 + 1, by omega, rfl⟩
          case measure => simp [intOf]
    · go_wp2_with fail
      refine (back_plain sp n HN.out HSP.out 2 rfl _ (HE.out.later HBW.out)).mono ?_
      rintro e W4 ⟨rfl, hb4⟩
      have HB4 := Lib.hid hb4
      clear hb4
      by_cases hf : (n : Int) < span 2
      · rw [if_pos hf]
        have tq : ((n : Int) / 65536 == 0) = true := by rw [fits_un n 2 65536 span_2 (by decide) (by omega)]; unfold fitsB; rw [if_neg (by decide)]; simp [hf]
        clear hf
        simp only [numR]
        go_wp2_with fail
        refine (HSS.out 2 rfl _ (HE.out.later (HBW.out.trans (HB4.out.mono HBW.out.size)))).mono ?_
        rintro e W5 ⟨⟨r, rfl, hy, hz⟩, hb5⟩
        have HB5 := Lib.hid (HB4.out.trans (hb5.mono HB4.out.size))
        have HY := Lib.hid hy
        have HZ := Lib.hid hz
        clear hb5 hy hz
        obtain ⟨hs, t0⟩ | ⟨hs, t0, t1⟩ | ⟨hs, t0, t1⟩ := high_2 n HN.out
        · obtain rfl := HY.out hs
          clear hs
          simp only [numR]
          go_wp2
          go_roundw
          case rel => exact ⟨HB.out.trans (HB5.out.mono (by have := HB.out.size; exact Nat.le_trans (by simp) this)), 1 + 1, by omega, rfl⟩
          case measure => simp [intOf]
        · obtain rfl := HY.out hs
          clear hs
          simp only [numR]
          go_wp2
          go_roundw
          case rel => exact ⟨HB.out.trans (HB5.out.mono (by have := HB.out.size; exact Nat.le_trans (by simp) this)), 1 + 1, by omega, rfl⟩
          case measure => simp [intOf]
        · obtain rfl := HZ.out hs
          clear hs
          simp only [numR]
          go_wp2
          go_roundw
          case rel => exact ⟨HB.out.trans (HB5.out.mono (by have := HB.out.size; exact Nat.le_trans (by simp) this)), 1 + 1, by omega, rfl⟩
          case measure => simp [intOf]
      · rw [if_neg hf]
        have tq : ((n : Int) / 65536 == 0) = false := by rw [fits_un n 2 65536 span_2 (by decide) (by omega)]; unfold fitsB; rw [if_neg (by decide)]; simp [hf]
        clear hf
        simp only [numR]
        go_wp2_with fail
        refine (HSS.out 2 rfl _ (HE.out.later (HBW.out.trans (HB4.out.mono HBW.out.size)))).mono ?_
        rintro e W5 ⟨⟨r, rfl, hy, hz⟩, hb5⟩
        have HB5 := Lib.hid (HB4.out.trans (hb5.mono HB4.out.size))
        have HY := Lib.hid hy
        have HZ := Lib.hid hz
        clear hb5 hy hz
        obtain ⟨hs, t0⟩ | ⟨hs, t0, t1⟩ | ⟨hs, t0, t1⟩ := high_2 n HN.out
        · obtain rfl := HY.out hs
          clear hs
          simp only [numR]
          go_wp2
          go_roundw
          case rel => exact ⟨HB.out.trans (HB5.out.mono (by have := HB.out.size; exact Nat.le_trans (by simp) this)), 1 + 1, by omega, rfl⟩
          case measure => simp [intOf]
        · obtain rfl := HY.out hs
          clear hs
          simp only [numR]
          go_wp2
          go_roundw
          case rel => exact ⟨HB.out.trans (HB5.out.mono (by have := HB.out.size; exact Nat.le_trans (by simp) this)), 1 + 1, by omega, rfl⟩
          case measure => simp [intOf]
        · obtain rfl := HZ.out hs
          clear hs
          simp only [numR]
          go_wp2
          go_roundw
          case rel => exact ⟨HB.out.trans (HB5.out.mono (by have := HB.out.size; exact Nat.le_trans (by simp) this)), 1 + 1, by omega, rfl⟩
          case measure => simp [intOf]
    · go_wp2_with fail
      refine (back_plain sp n HN.out HSP.out 4 rfl _ (HE.out.later HBW.out)).mono ?_
      rintro e W4 ⟨rfl, hb4⟩
      have HB4 := Lib.hid hb4
      clear hb4
      by_cases hf : (n : Int) < span 4
      · rw [if_pos hf]
        have tq : ((n : Int) / 4294967296 == 0) = true := by rw [fits_un n 4 4294967296 span_4 (by decide) (by omega)]; unfold fitsB; rw [if_neg (by decide)]; simp [hf]
        clear hf
        simp only [numR]
        go_wp2_with fail
        refine (HSS.out 4 rfl _ (HE.out.later (HBW.out.trans (HB4.out.mono HBW.out.size)))).mono ?_
        rintro e W5 ⟨⟨r, rfl, hy, hz⟩, hb5⟩
        have HB5 := Lib.hid (HB4.out.trans (hb5.mono HB4.out.size))
        have HY := Lib.hid hy
        have HZ := Lib.hid hz
        clear hb5 hy hz
        obtain ⟨hs, t0⟩ | ⟨hs, t0, t1⟩ | ⟨hs, t0, t1⟩ := high_4 n HN.out
        · obtain rfl := HY.out hs
          clear hs
          simp only [numR]
          go_wp2
          go_roundw
          case rel => exact ⟨HB.out.trans (HB5.out.mono (by have := HB.out.size; exact Nat.le_trans (by simp) this)), 2 + 1, by omega, rfl⟩
          case measure => simp [intOf]
        · obtain rfl := HY.out hs
          clear hs
          simp only [numR]
          go_wp2
          go_roundw
          case rel => exact ⟨HB.out.trans (HB5.out.mono (by have := HB.out.size; exact Nat.le_trans (by simp) this)), 2 + 1, by omega, rfl⟩
          case measure => simp [intOf]
        · obtain rfl := HZ.out hs
          clear hs
          simp only [numR]
          go_wp2
          go_roundw
          case rel => exact ⟨HB.out.trans (HB5.out.mono (by have := HB.out.size; exact Nat.le_trans (by simp) this)), 2 + 1, by omega, rfl⟩
          case measure => simp [intOf]
      · rw [if_neg hf]
        have tq : ((n : Int) / 4294967296 == 0) = false := by rw [fits_un n 4 4294967296 span_4 (by decide) (by omega)]; unfold fitsB; rw [if_neg (by decide)]; simp [hf]
        clear hf
        simp only [numR]
        go_wp2_with fail
        refine (HSS.out 4 rfl _ (HE.out.later (HBW.out.trans (HB4.out.mono HBW.out.size)))).mono ?_
        rintro e W5 ⟨⟨r, rfl, hy, hz⟩, hb5⟩
        have HB5 := Lib.hid (HB4.out.trans (hb5.mono HB4.out.size))
        have HY := Lib.hid hy
        have HZ := Lib.hid hz
        clear hb5 hy hz
        obtain ⟨hs, t0⟩ | ⟨hs, t0, t1⟩ | ⟨hs, t0, t1⟩ := high_4 n HN.out
        · obtain rfl := HY.out hs
          clear hs
          simp only [numR]
          go_wp2
          go_roundw
          case rel => exact ⟨HB.out.trans (HB5.out.mono (by have := HB.out.size; exact Nat.le_trans (by simp) this)), 2 + 1, by omega, rfl⟩
          case measure => simp [intOf]
        · obtain rfl := HY.out hs
          clear hs
          simp only [numR]
          go_wp2
          go_roundw
          case rel => exact ⟨HB.out.trans (HB5.out.mono (by have := HB.out.size; exact Nat.le_trans (by simp) this)), 2 + 1, by omega, rfl⟩
          case measure => simp [intOf]
        · obtain rfl := HZ.out hs
          clear hs
          simp only [numR]
          go_wp2
          go_roundw
          case rel => exact ⟨HB.out.trans (HB5.out.mono (by have := HB.out.size; exact Nat.le_trans (by simp) this)), 2 + 1, by omega, rfl⟩
          case measure => simp [intOf]
    · go_wp2_with fail
      refine (back_plain sp n HN.out HSP.out 8 rfl _ (HE.out.later HBW.out)).mono ?_
      rintro e W4 ⟨rfl, hb4⟩
      have HB4 := Lib.hid hb4
      clear hb4
      rw [if_pos (by rw [span_8]; omega)]
      simp only [numR]
      go_wp2_with fail
      refine (HSS.out 8 rfl _ (HE.out.later (HBW.out.trans (HB4.out.mono HBW.out.size)))).mono ?_
      rintro e W5 ⟨⟨r, rfl, hy, hz⟩, hb5⟩
      have HB5 := Lib.hid (HB4.out.trans (hb5.mono HB4.out.size))
      have HY := Lib.hid hy
      have HZ := Lib.hid hz
      clear hb5 hy hz
      obtain ⟨hs, t0⟩ | ⟨hs, t0, t1⟩ | ⟨hs, t0, t1⟩ := high_8 n HN.out
      · obtain rfl := HY.out hs
        clear hs
        simp only [numR]
        go_wp2
        go_roundw
        case rel => exact ⟨HB.out.trans (HB5.out.mono (by have := HB.out.size; exact Nat.le_trans (by simp) this)), 3 + 1, by omega, rfl⟩
        case measure => simp [intOf]
      · obtain rfl := HY.out hs
        clear hs
        simp only [numR]
        go_wp2
        go_roundw
        case rel => exact ⟨HB.out.trans (HB5.out.mono (by have := HB.out.size; exact Nat.le_trans (by simp) this)), 3 + 1, by omega, rfl⟩
        case measure => simp [intOf]
      · obtain rfl := HZ.out hs
        clear hs
        simp only [numR]
        go_wp2
        go_roundw
        case rel => exact ⟨HB.out.trans (HB5.out.mono (by have := HB.out.size; exact Nat.le_trans (by simp) this)), 3 + 1, by omega, rfl⟩
        case measure => simp [intOf]
    · go_wp2
      go_ret
      exact ⟨rfl, HBW.out⟩
end Go.Proofs.YtfnopliggdemaaaDoor
