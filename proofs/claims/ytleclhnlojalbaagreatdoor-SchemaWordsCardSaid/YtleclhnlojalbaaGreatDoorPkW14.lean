/-
  The document's own def: the number that a token says as a type's default. Conditions: those that each theorem names.
-/
import Derived.Test.YtleclhnlojalbaaGreatDoorPkW9
import Derived.Test.YtleclhnlojalbaaGreatDoorPkW10
import Derived.Test.YtleclhnlojalbaaGreatDoorPkW11
import Derived.Test.YtleclhnlojalbaaGreatDoorPkW13
import Derived.Deep.RegionHeld3
namespace Go.Proofs.YtleclhnlojalbaaGreatDoor
open Go.ChangeShapes Go.WideShapes Go.ChangeAt Go.RowKit Go.Shelf

theorem rnumber_bad (s : ByteArray) (size : Int) (sign : Bool) (w : World) (hs : s.size ≤ 281474976710656) (h : goodN (bts s) = false ∨ (goodN (bts s) = true ∧ ¬ (size = 1 ∨ size = 2 ∨ size = 4 ∨ size = 8))) :
    Calls Tryz.prog 90 #[.string s, .int .i64 size, .bool sign] w fun e w' => e = .returned (.tuple #[.int .u64 0, .bool false]) ∧ w = w' := by
  rcases h with h | ⟨h, h2⟩
  · have H := Lib.hid h
    clear h
    go_enter Tryz.func90, Tryz.ntmps90
    go_wp2_with fail
    refine (rgood_any s _ hs).mono ?_
    rintro e w1 ⟨rfl, rfl⟩
    rw [H.out]
    go_wp2
    go_ret2
    exact ⟨rfl, rfl⟩
  · have H := Lib.hid h
    have H2 := Lib.hid h2
    clear h h2
    go_enter Tryz.func90, Tryz.ntmps90
    go_wp2_with fail
    refine (rgood_any s _ hs).mono ?_
    rintro e w1 ⟨rfl, rfl⟩
    rw [H.out]
    go_wp2_with fail
    refine (rsized_no size _ H2.out).mono ?_
    rintro e w2 ⟨rfl, rfl⟩
    go_wp2
    go_ret2
    exact ⟨rfl, rfl⟩
def RNum (r : Option Nat) (w : World) (e : Ending) (w' : World) : Prop := ∃ x : Int, e = .returned (.tuple #[.int .u64 x, .bool r.isSome]) ∧ (∀ n, r = some n → x = n) ∧ w = w'
theorem rnum_none {w : World} {r : Option Nat} (x : Int) (h : r = none) : RNum r w (.returned (.tuple #[.int .u64 x, .bool false])) w := by
  subst h
  exact ⟨x, rfl, (fun n h => by cases h), rfl⟩
theorem rnum_some {w : World} {r : Option Nat} {x : Int} {n : Nat} (h : r = some n) (hx : x = n) : RNum r w (.returned (.tuple #[.int .u64 x, .bool true])) w := by
  subst h
  exact ⟨x, rfl, (fun m h => by cases h; exact hx), rfl⟩
theorem numV_of {zs : List Int} {size : Int} {sign : Bool} (h1 : goodN zs = true) (h3 : size = 1 ∨ size = 2 ∨ size = 4 ∨ size = 8) (h4 : decF 0 (digs zs) ≤ maxU) :
    numV zs size sign = if fitsB (decF 0 (digs zs)) (stA zs (isC 45) 0) size sign = true then some (if stA zs (isC 45) 0 = true then (18446744073709551616 - decF 0 (digs zs)) % 18446744073709551616 else decF 0 (digs zs)) else none := by
  unfold numV
  cases h5 : fitsB (decF 0 (digs zs)) (stA zs (isC 45) 0) size sign
  · rw [if_neg (fun hh => by have := hh.2.2.2; cases this), if_neg (by decide)]
  · rw [if_pos ⟨h1, (sized_iff size).2 h3, h4, rfl⟩, if_pos rfl]
theorem numV_no {zs : List Int} {size : Int} {sign : Bool} (h : goodN zs = false) : numV zs size sign = none := by
  unfold numV
  rw [if_neg (fun hh => by have := hh.1; rw [h] at this; cases this)]
theorem decF_take (ds : List Int) (k : Nat) (h : k < ds.length) : decF 0 (ds.take (k + 1)) = decF 0 (ds.take k) * 10 + ((ds.getD k 0).toNat - 48) := by
  rw [List.take_succ_eq_append_getElem h, decF_append, decF_cons, decF_nil]
  unfold dstep
  simp [List.getD, h]
theorem decF_take_le (ds : List Int) (k : Nat) : decF 0 (ds.take k) ≤ decF 0 ds := by
  conv => rhs; rw [← List.take_append_drop k ds, decF_append]
  exact decF_ge _ _
theorem fits_uns (v : Int) (size m : Int) (h : span size = m) : decide (v < m) = fitsB v false size false := by
  unfold fitsB
  rw [h, if_neg (by decide), Bool.not_false, Bool.true_and]
set_option maxRecDepth 100000 in
set_option maxHeartbeats 1600000 in
theorem rnumber_minus (s : ByteArray) (size : Int) (sign : Bool) (w : World) (hs : s.size ≤ 281474976710656) (h : goodN (bts s) = true) (h2 : size = 1 ∨ size = 2 ∨ size = 4 ∨ size = 8) (h3 : stA (bts s) (isC 45) 0 = true) :
    Calls Tryz.prog 90 #[.string s, .int .i64 size, .bool sign] w (RNum (numV (bts s) size sign) w) := by
  have h1 : 0 < s.size := by
    have := ((goodN_iff _).1 h).1
    rw [digs_length, bts_length] at this
    omega
  have H := Lib.hid h
  have H2 := Lib.hid h2
  have HV := Lib.hid (fun h4 => numV_of (sign := sign) h h2 h4)
  have HB4 := Lib.hid (fun h => numV_bad4 (zs := bts s) (size := size) (sign := sign) h)
  have HDG := Lib.hid (good_digs h).2
  have HDX := Lib.hid (show digs (bts s) = bts (s.extract 1 s.size) from by unfold digs; rw [if_pos h3, bts_extract])
  have t0 : ((s[0].toNat : Int) == 45) = true := by rw [← bts_get h1]; exact stA_p h3
  rw [h3] at HV
  generalize numV (bts s) size sign = r at HV HB4 ⊢
  clear h h2 h3
  go_enter Tryz.func90, Tryz.ntmps90
  go_wp2_with fail
  refine (rgood_any s _ hs).mono ?_
  rintro e w1 ⟨rfl, rfl⟩
  rw [H.out]
  go_wp2_with fail
  refine (rsized_yes size _ H2.out).mono ?_
  rintro e w2 ⟨rfl, rfl⟩
  go_wp2
  obtain ⟨d, hd⟩ : ∃ d, d = s.extract 1 s.size := ⟨_, rfl⟩
  rw [← hd]
  have HD := Lib.hid (show digs (bts s) = bts d from by rw [hd]; exact HDX.out)
  have hdl : d.size ≤ 281474976710656 := by rw [hd, extract_size]; omega
  clear hd HDX
  go_loop [10, 11] (fun n i => ∃ k : Nat, k ≤ d.size ∧ i = .int .i64 k ∧ n = .int .u64 (decF 0 ((bts d).take k) : Nat) ∧ ((decF 0 ((bts d).take k) : Nat) : Int) ≤ 18446744073709551615) (fun _ i => d.size - (intOf i).toNat)
  case atStart => exact ⟨0, Nat.zero_le _, rfl, rfl, by rw [List.take_zero, decF_nil]; decide⟩
  case round =>
    obtain ⟨k, hk, rfl, rfl, hle⟩ := hrel
    by_cases hlt : k < d.size
    · have HT := Lib.hid (decF_take (bts d) k (by rw [bts_length]; exact hlt))
      have hTle := decF_take_le (bts d) (k + 1)
      have hc := HDG.out ((bts d).getD k 0) (by rw [HD.out]; rw [List.getD, List.getElem?_eq_getElem (by rw [bts_length]; exact hlt)]; exact List.getElem_mem _)
      rw [bts_get hlt] at HT hc
      have HT2 := HT.out
      rw [show ((d[k].toNat : Int)).toNat = d[k].toNat from Int.toNat_natCast _] at HT2
      have HT' := Lib.hid HT2
      have HBB := Lib.hid (fun h => HB4.out (by rw [HD.out]; exact h))
      generalize decF 0 ((bts d).take k) = n at hle HT' ⊢
      have HN1 : Hid (n * 10 + (d[k].toNat - 48) ≤ decF 0 (bts d)) := by
        have e := HT'.out
        rw [e] at hTle
        exact hTle
      have HMX := Lib.hid (show maxU = 18446744073709551615 from rfl)
      clear HT2 HT hTle
      by_cases c1 : (1844674407370955161 : Int) < n
      · have t1 : decide ((1844674407370955161 : Int) < n) = true := by simpa using c1
        have HR := Lib.hid (HBB.out (by have h1 := HN1.out; have h2 := HMX.out; omega))
        go_wp2
        go_ret2
        exact rnum_none _ HR.out
      · have t1 : decide ((1844674407370955161 : Int) < n) = false := by simpa using c1
        by_cases c2 : (18446744073709551615 : Int) - ((d[k].toNat : Int) - 48) < n * 10
        · have HR := Lib.hid (HBB.out (by have h1 := HN1.out; have h2 := HMX.out; omega))
          go_wp2
          go_ret2
          exact rnum_none _ HR.out
        · go_wp2
          go_round
          case rel => exact ⟨k + 1, by omega, by go_num, by rw [HT'.out]; exact congrArg (Value.int .u64) (by omega), by rw [HT'.out]; omega⟩
          case measure => simp [intOf]; omega
    · have hke : k = d.size := by omega
      have HV' := Lib.hid HV.out
      rw [HD.out, show bts d = (bts d).take k from (List.take_of_length_le (by rw [bts_length]; omega)).symm] at HV'
      have HMX := Lib.hid (show maxU = 18446744073709551615 from rfl)
      generalize decF 0 ((bts d).take k) = n at hle HV' ⊢
      have HW := Lib.hid (HV'.out (by have h2 := HMX.out; omega))
      clear hke
      obtain rfl | rfl | rfl | rfl := H2.out
      · cases sign
        · have HR := Lib.hid (HW.out.trans (if_neg (by rw [show fitsB (n : Int) true 1 false = false from (fits_below _ _).symm]; decide)))
          go_wp2
          go_ret2
          exact rnum_none _ HR.out
        · by_cases hl : (128 : Int) < n
          · have HR := Lib.hid (HW.out.trans (if_neg (by rw [← fits_sb (n : Int) 1 128 half_1]; rw [decide_eq_false (by omega)]; simp; omega)))
            go_wp2
            go_ret2
            exact rnum_none _ HR.out
          · have HR := Lib.hid (HW.out.trans (if_pos (by rw [← fits_sb (n : Int) 1 128 half_1]; simp; omega)))
            go_wp2
            go_ret2
            exact rnum_some HR.out (xor_max n hle)
      · cases sign
        · have HR := Lib.hid (HW.out.trans (if_neg (by rw [show fitsB (n : Int) true 2 false = false from (fits_below _ _).symm]; decide)))
          go_wp2
          go_ret2
          exact rnum_none _ HR.out
        · by_cases hl : (32768 : Int) < n
          · have HR := Lib.hid (HW.out.trans (if_neg (by rw [← fits_sb (n : Int) 2 32768 half_2]; rw [decide_eq_false (by omega)]; simp; omega)))
            go_wp2
            go_ret2
            exact rnum_none _ HR.out
          · have HR := Lib.hid (HW.out.trans (if_pos (by rw [← fits_sb (n : Int) 2 32768 half_2]; simp; omega)))
            go_wp2
            go_ret2
            exact rnum_some HR.out (xor_max n hle)
      · cases sign
        · have HR := Lib.hid (HW.out.trans (if_neg (by rw [show fitsB (n : Int) true 4 false = false from (fits_below _ _).symm]; decide)))
          go_wp2
          go_ret2
          exact rnum_none _ HR.out
        · by_cases hl : (2147483648 : Int) < n
          · have HR := Lib.hid (HW.out.trans (if_neg (by rw [← fits_sb (n : Int) 4 2147483648 half_4]; rw [decide_eq_false (by omega)]; simp; omega)))
            go_wp2
            go_ret2
            exact rnum_none _ HR.out
          · have HR := Lib.hid (HW.out.trans (if_pos (by rw [← fits_sb (n : Int) 4 2147483648 half_4]; simp; omega)))
            go_wp2
            go_ret2
            exact rnum_some HR.out (xor_max n hle)
      · cases sign
        · have HR := Lib.hid (HW.out.trans (if_neg (by rw [show fitsB (n : Int) true 8 false = false from (fits_below _ _).symm]; decide)))
          go_wp2
          go_ret2
          exact rnum_none _ HR.out
        · by_cases hl : (9223372036854775808 : Int) < n
          · have HR := Lib.hid (HW.out.trans (if_neg (by rw [← fits_sb (n : Int) 8 9223372036854775808 half_8]; rw [decide_eq_false (by omega)]; simp; omega)))
            go_wp2
            go_ret2
            exact rnum_none _ HR.out
          · have HR := Lib.hid (HW.out.trans (if_pos (by rw [← fits_sb (n : Int) 8 9223372036854775808 half_8]; simp; omega)))
            go_wp2
            go_ret2
            exact rnum_some HR.out (xor_max n hle)
set_option maxRecDepth 100000 in
set_option maxHeartbeats 1600000 in
theorem rnumber_plain (s : ByteArray) (size : Int) (sign : Bool) (w : World) (hs : s.size ≤ 281474976710656) (h : goodN (bts s) = true) (h2 : size = 1 ∨ size = 2 ∨ size = 4 ∨ size = 8) (h3 : stA (bts s) (isC 45) 0 = false) :
    Calls Tryz.prog 90 #[.string s, .int .i64 size, .bool sign] w (RNum (numV (bts s) size sign) w) := by
  have h1 : 0 < s.size := by
    have := ((goodN_iff _).1 h).1
    rw [digs_length, bts_length] at this
    omega
  have H := Lib.hid h
  have H2 := Lib.hid h2
  have HV := Lib.hid (fun h4 => numV_of (sign := sign) h h2 h4)
  have HB4 := Lib.hid (fun h => numV_bad4 (zs := bts s) (size := size) (sign := sign) h)
  have HDG := Lib.hid (good_digs h).2
  have HDX := Lib.hid (show digs (bts s) = bts s from by unfold digs; rw [if_neg (by rw [h3]; decide)])
  have t0 : ((s[0].toNat : Int) == 45) = false := by
    rw [stA_of (by rw [bts_length]; exact h1)] at h3
    rw [← bts_get h1]
    exact h3
  rw [h3] at HV
  generalize numV (bts s) size sign = r at HV HB4 ⊢
  clear h h2 h3
  go_enter Tryz.func90, Tryz.ntmps90
  go_wp2_with fail
  refine (rgood_any s _ hs).mono ?_
  rintro e w1 ⟨rfl, rfl⟩
  rw [H.out]
  go_wp2_with fail
  refine (rsized_yes size _ H2.out).mono ?_
  rintro e w2 ⟨rfl, rfl⟩
  go_wp2
  obtain ⟨d, hd⟩ : ∃ d, d = s := ⟨_, rfl⟩
  have HD := Lib.hid (show digs (bts s) = bts d from by rw [hd]; exact HDX.out)
  subst hd
  have hdl := hs
  clear HDX
  go_loop [10, 11] (fun n i => ∃ k : Nat, k ≤ d.size ∧ i = .int .i64 k ∧ n = .int .u64 (decF 0 ((bts d).take k) : Nat) ∧ ((decF 0 ((bts d).take k) : Nat) : Int) ≤ 18446744073709551615) (fun _ i => d.size - (intOf i).toNat)
  case atStart => exact ⟨0, Nat.zero_le _, rfl, rfl, by rw [List.take_zero, decF_nil]; decide⟩
  case round =>
    obtain ⟨k, hk, rfl, rfl, hle⟩ := hrel
    by_cases hlt : k < d.size
    · have HT := Lib.hid (decF_take (bts d) k (by rw [bts_length]; exact hlt))
      have hTle := decF_take_le (bts d) (k + 1)
      have hc := HDG.out ((bts d).getD k 0) (by rw [HD.out]; rw [List.getD, List.getElem?_eq_getElem (by rw [bts_length]; exact hlt)]; exact List.getElem_mem _)
      rw [bts_get hlt] at HT hc
      have HT2 := HT.out
      rw [show ((d[k].toNat : Int)).toNat = d[k].toNat from Int.toNat_natCast _] at HT2
      have HT' := Lib.hid HT2
      have HBB := Lib.hid (fun h => HB4.out (by rw [HD.out]; exact h))
      generalize decF 0 ((bts d).take k) = n at hle HT' ⊢
      have HN1 : Hid (n * 10 + (d[k].toNat - 48) ≤ decF 0 (bts d)) := by
        have e := HT'.out
        rw [e] at hTle
        exact hTle
      have HMX := Lib.hid (show maxU = 18446744073709551615 from rfl)
      clear HT2 HT hTle
      by_cases c1 : (1844674407370955161 : Int) < n
      · have t1 : decide ((1844674407370955161 : Int) < n) = true := by simpa using c1
        have HR := Lib.hid (HBB.out (by have h1 := HN1.out; have h2 := HMX.out; omega))
        go_wp2
        go_ret2
        exact rnum_none _ HR.out
      · have t1 : decide ((1844674407370955161 : Int) < n) = false := by simpa using c1
        by_cases c2 : (18446744073709551615 : Int) - ((d[k].toNat : Int) - 48) < n * 10
        · have HR := Lib.hid (HBB.out (by have h1 := HN1.out; have h2 := HMX.out; omega))
          go_wp2
          go_ret2
          exact rnum_none _ HR.out
        · go_wp2
          go_round
          case rel => exact ⟨k + 1, by omega, by go_num, by rw [HT'.out]; exact congrArg (Value.int .u64) (by omega), by rw [HT'.out]; omega⟩
          case measure => simp [intOf]; omega
    · have hke : k = d.size := by omega
      have HV' := Lib.hid HV.out
      rw [HD.out, show bts d = (bts d).take k from (List.take_of_length_le (by rw [bts_length]; omega)).symm] at HV'
      have HMX := Lib.hid (show maxU = 18446744073709551615 from rfl)
      generalize decF 0 ((bts d).take k) = n at hle HV' ⊢
      have HW := Lib.hid (HV'.out (by have h2 := HMX.out; omega))
      clear hke
      obtain rfl | rfl | rfl | rfl := H2.out
      · cases sign
        · by_cases hl : (n : Int) < 256
          · have HR := Lib.hid (HW.out.trans (if_pos (by rw [← fits_uns (n : Int) 1 256 span_1]; exact decide_eq_true hl)))
            have tl : decide ((n : Int) ≤ 255) = true := by simp; omega
            go_wp2
            go_ret2
            exact rnum_some HR.out rfl
          · have HR := Lib.hid (HW.out.trans (if_neg (by rw [← fits_uns (n : Int) 1 256 span_1, decide_eq_false hl]; decide)))
            have tl : decide ((n : Int) ≤ 255) = false := by simp; omega
            go_wp2
            go_ret2
            exact rnum_none _ HR.out
        · by_cases hl : (n : Int) < 128
          · have HR := Lib.hid (HW.out.trans (if_pos (by rw [← fits_sg (n : Int) 1 128 half_1]; exact decide_eq_true hl)))
            have tl : decide ((n : Int) ≤ 127) = true := by simp; omega
            go_wp2
            go_ret2
            exact rnum_some HR.out rfl
          · have HR := Lib.hid (HW.out.trans (if_neg (by rw [← fits_sg (n : Int) 1 128 half_1, decide_eq_false hl]; decide)))
            have tl : decide ((n : Int) ≤ 127) = false := by simp; omega
            go_wp2
            go_ret2
            exact rnum_none _ HR.out
      · cases sign
        · by_cases hl : (n : Int) < 65536
          · have HR := Lib.hid (HW.out.trans (if_pos (by rw [← fits_uns (n : Int) 2 65536 span_2]; exact decide_eq_true hl)))
            have tl : decide ((n : Int) ≤ 65535) = true := by simp; omega
            go_wp2
            go_ret2
            exact rnum_some HR.out rfl
          · have HR := Lib.hid (HW.out.trans (if_neg (by rw [← fits_uns (n : Int) 2 65536 span_2, decide_eq_false hl]; decide)))
            have tl : decide ((n : Int) ≤ 65535) = false := by simp; omega
            go_wp2
            go_ret2
            exact rnum_none _ HR.out
        · by_cases hl : (n : Int) < 32768
          · have HR := Lib.hid (HW.out.trans (if_pos (by rw [← fits_sg (n : Int) 2 32768 half_2]; exact decide_eq_true hl)))
            have tl : decide ((n : Int) ≤ 32767) = true := by simp; omega
            go_wp2
            go_ret2
            exact rnum_some HR.out rfl
          · have HR := Lib.hid (HW.out.trans (if_neg (by rw [← fits_sg (n : Int) 2 32768 half_2, decide_eq_false hl]; decide)))
            have tl : decide ((n : Int) ≤ 32767) = false := by simp; omega
            go_wp2
            go_ret2
            exact rnum_none _ HR.out
      · cases sign
        · by_cases hl : (n : Int) < 4294967296
          · have HR := Lib.hid (HW.out.trans (if_pos (by rw [← fits_uns (n : Int) 4 4294967296 span_4]; exact decide_eq_true hl)))
            have tl : decide ((n : Int) ≤ 4294967295) = true := by simp; omega
            go_wp2
            go_ret2
            exact rnum_some HR.out rfl
          · have HR := Lib.hid (HW.out.trans (if_neg (by rw [← fits_uns (n : Int) 4 4294967296 span_4, decide_eq_false hl]; decide)))
            have tl : decide ((n : Int) ≤ 4294967295) = false := by simp; omega
            go_wp2
            go_ret2
            exact rnum_none _ HR.out
        · by_cases hl : (n : Int) < 2147483648
          · have HR := Lib.hid (HW.out.trans (if_pos (by rw [← fits_sg (n : Int) 4 2147483648 half_4]; exact decide_eq_true hl)))
            have tl : decide ((n : Int) ≤ 2147483647) = true := by simp; omega
            go_wp2
            go_ret2
            exact rnum_some HR.out rfl
          · have HR := Lib.hid (HW.out.trans (if_neg (by rw [← fits_sg (n : Int) 4 2147483648 half_4, decide_eq_false hl]; decide)))
            have tl : decide ((n : Int) ≤ 2147483647) = false := by simp; omega
            go_wp2
            go_ret2
            exact rnum_none _ HR.out
      · cases sign
        · have hl : (n : Int) < 18446744073709551616 := by omega
          have HR := Lib.hid (HW.out.trans (if_pos (by rw [← fits_uns (n : Int) 8 18446744073709551616 span_8]; exact decide_eq_true hl)))
          have tl : decide ((n : Int) ≤ 18446744073709551615) = true := by simp; omega
          go_wp2
          go_ret2
          exact rnum_some HR.out rfl
        · by_cases hl : (n : Int) < 9223372036854775808
          · have HR := Lib.hid (HW.out.trans (if_pos (by rw [← fits_sg (n : Int) 8 9223372036854775808 half_8]; exact decide_eq_true hl)))
            have tl : decide ((n : Int) ≤ 9223372036854775807) = true := by simp; omega
            go_wp2
            go_ret2
            exact rnum_some HR.out rfl
          · have HR := Lib.hid (HW.out.trans (if_neg (by rw [← fits_sg (n : Int) 8 9223372036854775808 half_8, decide_eq_false hl]; decide)))
            have tl : decide ((n : Int) ≤ 9223372036854775807) = false := by simp; omega
            go_wp2
            go_ret2
            exact rnum_none _ HR.out
theorem rnumber_any (s : ByteArray) (size : Int) (sign : Bool) (w : World) (hs : s.size ≤ 281474976710656) :
    Calls Tryz.prog 90 #[.string s, .int .i64 size, .bool sign] w (RNum (numV (bts s) size sign) w) := by
  have h0 : ∀ e w', (e = .returned (.tuple #[.int .u64 0, .bool false]) ∧ w = w') → numV (bts s) size sign = none → RNum (numV (bts s) size sign) w e w' := by
    rintro e w' ⟨rfl, rfl⟩ h
    exact rnum_none 0 h
  cases hg : goodN (bts s)
  · exact (rnumber_bad s size sign w hs (.inl hg)).mono fun e w' h => h0 e w' h (numV_no hg)
  · by_cases h2 : size = 1 ∨ size = 2 ∨ size = 4 ∨ size = 8
    · cases h3 : stA (bts s) (isC 45) 0
      · exact rnumber_plain s size sign w hs hg h2 h3
      · exact rnumber_minus s size sign w hs hg h2 h3
    · exact (rnumber_bad s size sign w hs (.inr ⟨hg, h2⟩)).mono fun e w' h => h0 e w' h (numV_bad3 h2)
end Go.Proofs.YtleclhnlojalbaaGreatDoor
namespace Go.Proofs.YtleclhnlojalbaaGreatDoor
open Go.ChangeShapes Go.WideShapes Go.ChangeAt Go.RowKit Go.Shelf

def DefPost (r : Option Nat) (w : World) (e : Ending) (w' : World) : Prop := ∃ x : Int, e = .returned (.tuple #[.int .u64 x, .bool r.isSome]) ∧ (∀ n, r = some n → x = n) ∧ Below w.heap.size w w'
theorem def_none {w w' : World} {r : Option Nat} (x : Int) (h : r = none) (hb : Below w.heap.size w w') : DefPost r w (.returned (.tuple #[.int .u64 x, .bool false])) w' := by
  subst h
  exact ⟨x, rfl, fun n hn => (by cases hn), hb⟩
theorem def_some {w w' : World} {r : Option Nat} {x : Int} {n : Nat} (h : r = some n) (hx : x = n) (hb : Below w.heap.size w w') : DefPost r w (.returned (.tuple #[.int .u64 x, .bool true])) w' := by
  subst h
  exact ⟨x, rfl, fun n hn => (by cases hn; exact hx), hb⟩
theorem valueM_not {es : List RCho} {k r ls : Nat} {t : Tok} (h0 : t.kind ≠ 0) (h : isNumP k ls = false) : valueM es k r ls t = none := by
  unfold valueM
  rw [if_neg h0]
  by_cases hl : ls = 0
  · have hk : ¬ 0 < kSize k := by
      intro hk
      rw [isNumP, decide_eq_true hl, decide_eq_true hk] at h
      cases h
    rw [if_neg (fun e => e hl)]
    have h1 : k ≠ 1 := by
      rintro rfl
      exact hk (by decide)
    have h10 : k ≠ 10 := by
      rintro rfl
      exact hk (by decide)
    rw [if_neg h1, if_neg h10]
    split
    · refine numV_bad3 (fun hs => hk ?_)
      omega
    · rfl
  · rw [if_pos hl]
theorem valueM_is {es : List RCho} {k r ls : Nat} {t : Tok} (h0 : t.kind ≠ 0) (h : isNumP k ls = true) :
    valueM es k r ls t = if k = 1 then chooseM t falseTrue else if k = 10 then chooseM t (chosenM es r) else if t.kind = 2 then numV (bts (tokT t)) (kSize k) (kSign k) else none := by
  unfold isNumP at h
  rw [Bool.and_eq_true, decide_eq_true_iff, decide_eq_true_iff] at h
  unfold valueM
  rw [if_neg h0, if_neg (fun e => e h.1)]
theorem list_true : (⟨#[116, 114, 117, 101]⟩ : ByteArray).toList = [116, 114, 117, 101] := by rw [ByteArray.toList_eq]
theorem list_false : (⟨#[102, 97, 108, 115, 101]⟩ : ByteArray).toList = [102, 97, 108, 115, 101] := by rw [ByteArray.toList_eq]
theorem choose_no {t : Tok} {l : List ByteArray} (h : t.kind ≠ 1) : chooseM t l = none := by rw [chooseM, if_neg h]
theorem choose_yes {t : Tok} {l : List ByteArray} (h : t.kind = 1) : chooseM t l = idx l (tokT t) := by rw [chooseM, if_pos h]
set_option maxRecDepth 100000 in
set_option maxHeartbeats 4000000 in
theorem rdef_any (w : World) {rb : Nat} {rs : List (RRec × Value)} {re : List (RCho × Value)} {rt : List Tok} {sv ev rv : Value} (h : RawRows rb w rs re rt sv ev rv) (k r ls : Nat) (t : Tok) (h0 : t.kind ≠ 0) (hk : k ≤ 13) (hr : k = 10 → r < re.length) (hs : (tokT t).size ≤ 281474976710656) :
    Calls Tryz.prog 67 #[.agg #[sv, ev, rv], .agg #[.int .u8 (k : Nat), .int .i64 (r : Nat), .int .i64 (ls : Nat)], .agg #[.int .i64 t.kind, .string (tokT t), .int .i64 t.place]] w (DefPost (valueM (re.map Prod.fst) k r ls t) w) := by
  obtain ⟨hb, hq0, hq1, hq2⟩ := tri_blk w #[sv, ev, rv] #[.int .u8 (k : Nat), .int .i64 (r : Nat), .int .i64 (ls : Nat)] #[.int .i64 t.kind, .string (tokT t), .int .i64 t.place] 69 53 109
  have hf2 := row_few h.enums
  have HNO := Lib.hid (fun h => valueM_not (es := re.map Prod.fst) (k := k) (r := r) (ls := ls) (t := t) h0 h)
  have HIS := Lib.hid (fun h => valueM_is (es := re.map Prod.fst) (k := k) (r := r) (ls := ls) (t := t) h0 h)
  have HC1 := Lib.hid (fun (l : List ByteArray) => choose_no (t := t) (l := l))
  have HC2 := Lib.hid (fun (l : List ByteArray) => choose_yes (t := t) (l := l))
  have HCH := Lib.hid (show k = 10 → ∀ hr : r < re.length, chosenM (re.map Prod.fst) r = re[r].1.names.map tokT from fun _ hr => by
    rw [chosenM, List.getD_eq_getElem?_getD, List.getElem?_map, List.getElem?_eq_getElem hr]; rfl)
  generalize valueM (re.map Prod.fst) k r ls t = res at *
  have HRAW := Lib.hid (h.below hb)
  have HB := Lib.hid hb
  have HQ0 := Lib.hid hq0
  have HQ1 := Lib.hid hq1
  have HQ2 := Lib.hid hq2
  have HRL := Lib.hid hr
  obtain ⟨sa, sc, ea, ec, ra, rc, rfl, rfl, rfl⟩ := h.forms
  generalize tokT t = s at *
  generalize t.kind = tk at *
  clear h hb hq0 hq1 hq2 hr
  go_enter Tryz.func67, Tryz.ntmps67
  go_upto_region 1 with (fail)
  generalize (((w.alloc (.cells #[.slice sa rs.length sc, .slice ea re.length ec, .slice ra rt.length rc] 69)).alloc (.cells #[.int .u8 (k : Nat), .int .i64 (r : Nat), .int .i64 (ls : Nat)] 53)).alloc (.cells #[.int .i64 tk, .string s, .int .i64 t.place] 109)) = W0 at *
  obtain ⟨_, y0, y1, y2, _⟩ := blk3 HQ1.out
  go_wp2_with fail
  refine (isnum_any k r ls W0 (by omega)).mono ?_
  rintro e W1 ⟨rfl, hb1⟩
  have HB1 := Lib.hid (HB.out.trans (hb1.mono HB.out.size))
  have HRAW1 := Lib.hid (HRAW.out.below hb1)
  obtain ⟨_, p0, p1, p2, _⟩ := blk3 (blk_below HQ0.out hb1 (blk_lt HQ0.out))
  obtain ⟨_, q0, q1, q2, _⟩ := blk3 (blk_below HQ1.out hb1 (blk_lt HQ1.out))
  obtain ⟨_, z0, z1, z2, _⟩ := blk3 (blk_below HQ2.out hb1 (blk_lt HQ2.out))
  have HP0 := Lib.hid (blk_below HQ0.out hb1 (blk_lt HQ0.out))
  have HP1 := Lib.hid (blk_below HQ1.out hb1 (blk_lt HQ1.out))
  have HP2 := Lib.hid (blk_below HQ2.out hb1 (blk_lt HQ2.out))
  clear hb1 y0 y1 y2 HRAW HQ0 HQ1 HQ2 HB
  cases hn : isNumP k ls
  · have HE := Lib.hid (HNO.out hn)
    clear hn
    go_wp2
    go_ret2
    exact def_none 0 HE.out HB1.out
  have HV := Lib.hid (HIS.out hn)
  clear hn HNO HIS
  by_cases hk1 : k = 1
  · subst hk1
    have HV1 := Lib.hid (HV.out.trans (if_pos rfl))
    clear HV HCH HRL
    by_cases ht : tk = 1
    · have HV2 := Lib.hid (HV1.out.trans (HC2.out falseTrue ht))
      subst ht
      clear HV1 HC1 HC2
      by_cases hst : s = ⟨#[116, 114, 117, 101]⟩
      · have t1 : (s.toList == [116, 114, 117, 101]) = true := by rw [← list_true]; exact ba_yes hst
        have HE := Lib.hid (show res = some 1 by rw [HV2.out, hst]; rfl)
        clear hst HV2
        go_wp2
        go_ret2
        exact def_some HE.out rfl HB1.out
      · have t1 : (s.toList == [116, 114, 117, 101]) = false := by rw [← list_true]; exact ba_no hst
        by_cases hsf : s = ⟨#[102, 97, 108, 115, 101]⟩
        · have t2 : (s.toList == [102, 97, 108, 115, 101]) = true := by rw [← list_false]; exact ba_yes hsf
          have HE := Lib.hid (show res = some 0 by rw [HV2.out, hsf]; rfl)
          clear hst hsf HV2
          go_wp2_with fail
          go_quiet (fail)
          go_wp2
          go_ret2
          exact def_some HE.out rfl (bel_drewN HB1.out _)
        · have t2 : (s.toList == [102, 97, 108, 115, 101]) = false := by rw [← list_false]; exact ba_no hsf
          have HE := Lib.hid (show res = none by
            rw [HV2.out]
            simp only [falseTrue, idx]
            rw [if_neg (fun e => hsf e.symm), if_neg (fun e => hst e.symm)]
            rfl)
          clear hst hsf HV2
          go_wp2_with fail
          go_quiet (fail)
          go_wp2
          go_ret2
          exact def_none 0 HE.out (bel_drewN HB1.out _)
    · have HE := Lib.hid (HV1.out.trans (HC1.out falseTrue ht))
      have t1 : (tk == 1) = false := by simp; exact ht
      clear ht HV1 HC1 HC2
      go_wp2_with fail
      go_quiet (fail)
      go_wp2
      go_ret2
      exact def_none 0 HE.out (bel_drewN HB1.out _)
  have HV1 := Lib.hid (HV.out.trans (if_neg hk1))
  have t1 : ((k : Int) == 1) = false := by simp; omega
  clear HV
  by_cases hk10 : k = 10
  · have hrl := HRL.out hk10
    have HV2 := Lib.hid (show res = chooseM t (re[r].1.names.map tokT) by rw [HV1.out, if_pos hk10, HCH.out hk10 hrl])
    subst hk10
    clear HV1 HCH HRL
    obtain ⟨g, c, hv, hc, hg, hcell⟩ := row_el choCells 3 (fun _ => rfl) HRAW1.out.enums r hrl
    obtain ⟨rfl, rfl⟩ := slice_inj hv
    have HNM := Lib.hid (HRAW1.out.names _ (List.getElem_mem hrl))
    have x2 : W1.cell? ⟨g, r * 3 + 2, none⟩ = some re[r].2 := hcell 2 (by omega)
    obtain ⟨na, nc, hna⟩ := ownsRow_form HNM.out
    rw [hna] at x2 HNM
    have hnf := row_few HNM.out
    have hgl : g < W1.heap.size := hg
    have hri : (r : Int) < re.length := by omega
    generalize re[r].1.names = L at *
    clear hv hcell hna p0 p1 p2 q0 q1 q2 z0 z1 z2
    have HX2 := Lib.hid x2
    clear x2
    obtain ⟨_, p0, p1, p2, _⟩ := blk3 HP0.out
    obtain ⟨_, q0, q1, q2, _⟩ := blk3 HP1.out
    go_wp2
    clear p0 p1 p2 q0 q1 q2
    go_loopw [8] (fun i wr => Below W1.heap.size W1 wr ∧ ∃ j : Nat, j ≤ L.length ∧ i = .int .i64 j ∧ (tk = 1 → hasS ((L.map tokT).take j) s = false)) (fun i _ => L.length - (intOf i).toNat)
    case atStart => exact ⟨Below.refl _ _, 0, Nat.zero_le _, rfl, fun _ => rfl⟩
    case round =>
      obtain ⟨hb, j, hjl, rfl, hi⟩ := hrel
      have HI := Lib.hid hi
      have HB2 := Lib.hid (HB1.out.trans (hb.mono HB1.out.size))
      have HBW := Lib.hid hb
      obtain ⟨_, p0, p1, p2, _⟩ := blk3 (blk_below HP0.out hb (blk_lt HP0.out))
      obtain ⟨_, q0, q1, q2, _⟩ := blk3 (blk_below HP1.out hb (blk_lt HP1.out))
      obtain ⟨_, z0, z1, z2, _⟩ := blk3 (blk_below HP2.out hb (blk_lt HP2.out))
      have x2 := (hb.cell (p := ⟨g, r * 3 + 2, none⟩) hgl).trans HX2.out
      have HNR := Lib.hid (row_keep hb HNM.out)
      clear hb hi
      by_cases hlt : j < L.length
      · obtain ⟨gn, cn, hvn, hcn, hgn, hcelln⟩ := row_el tokCells 3 (fun _ => rfl) HNR.out j hlt
        obtain ⟨rfl, rfl⟩ := slice_inj hvn
        have y1 : wr.cell? ⟨gn, j * 3 + 1, none⟩ = some (.string (tokT L[j])) := hcelln 1 (by omega)
        have hmj : (L.map tokT)[j]'(by rw [List.length_map]; exact hlt) = tokT L[j] := by rw [List.getElem_map]
        have hst := has_take_succ (L.map tokT) s j (by rw [List.length_map]; exact hlt)
        have HD := Lib.hid (idx_at (L.map tokT) s j (by rw [List.length_map]; exact hlt))
        rw [hmj] at hst HD
        generalize tokT L[j] = q at *
        have hji : (j : Int) < L.length := by omega
        by_cases ht : tk = 1
        · have hi := HI.out ht
          by_cases hq : q = s
          · have HE := Lib.hid (show res = some j by rw [HV2.out, HC2.out _ ht, HD.out hi hq])
            have t3 : (q.toList == s.toList) = true := ba_yes hq
            have hwj : IntKind.u64.wrap (j : Int) = j := IntWalk.u64_in _ (by omega)
            subst ht
            clear hq hi hst hmj hcelln hvn HV2 HC1 HC2 HD HI
            go_wp2_with fail
            go_quiet (fail)
            go_wp2
            go_ret2
            exact def_some HE.out rfl (bel_drewN HB2.out _)
          · have HIN := Lib.hid (show hasS ((L.map tokT).take (j + 1)) s = false by rw [hst, hi, Bool.false_or]; exact decide_eq_false fun e => hq e.symm)
            have t3 : (q.toList == s.toList) = false := ba_no hq
            subst ht
            clear hq hi hst hmj hcelln hvn HD HI
            go_wp2_with fail
            go_quiet (fail)
            go_wp2_with fail
            go_roundw
            case rel => exact ⟨bel_drewN HBW.out _, j + 1, by omega, by go_num, fun _ => HIN.out⟩
            case measure => simp [intOf]; omega
        · have tt : (tk == 1) = false := by simp; exact ht
          have HT := Lib.hid ht
          clear ht hst hmj hcelln hvn HD HI
          go_wp2_with fail
          go_quiet (fail)
          go_wp2_with fail
          go_roundw
          case rel => exact ⟨bel_drewN HBW.out _, j + 1, by omega, by go_num, fun h => absurd h HT.out⟩
          case measure => simp [intOf]; omega
      · obtain rfl : j = L.length := by omega
        have HE : Hid (res = none) := Lib.hid (by
          rw [HV2.out]
          by_cases ht : tk = 1
          · rw [HC2.out _ ht]
            exact idx_no _ _ (by have := HI.out ht; rwa [← List.length_map (f := tokT), List.take_length] at this)
          · exact HC1.out _ ht)
        clear HV2 HC1 HC2 HI
        go_wp2
        go_ret2
        exact def_none 0 HE.out HB2.out
  have HV2 := Lib.hid (HV1.out.trans (if_neg hk10))
  have t10 : ((k : Int) == 10) = false := by simp; omega
  clear HV1 HCH HRL hk1 hk10
  by_cases ht : tk = 2
  · have HE := Lib.hid (HV2.out.trans (if_pos ht))
    subst ht
    have hwk : IntKind.i64.wrap (k : Int) = k := IntWalk.i64_in _ (by omega)
    clear HV2
    go_upto_region 16 with (fail)
    obtain ⟨_, k0, _, _, _⟩ := blk3 HP1.out
    go_region_held3 (fun w' => w'.cell? ⟨w.heap.size + 2, 1, none⟩ = some (.string s) ∧ w'.cell? ⟨w.heap.size + 1, 0, none⟩ = some (.int .u8 (k : Nat))) (first | assumption | go_keep) (first | (go_at_call 62; refine (rsize_any _ _).mono ?_; rintro e W2 ⟨rfl, rfl⟩) | (go_at_call 63; refine (rsign_any _ _).mono ?_; rintro e W2 ⟨rfl, rfl⟩) | (go_at_call 90; refine (rnumber_any s _ _ _ hs).mono ?_; rintro e W3 ⟨x, rfl, hx, rfl⟩))
    all_goals
      go_wp2
      go_ret2
      rw [HE.out]
      first
        | exact ⟨x, rfl, hx, HB1.out⟩
        | exact ⟨x, rfl, hx, HB1.out.drew⟩
        | exact ⟨x, rfl, hx, HB1.out.drew.drew⟩
        | exact ⟨x, rfl, hx, HB1.out.drew.drew.drew⟩
  · have HE := Lib.hid (HV2.out.trans (if_neg ht))
    have t2 : (tk == 2) = false := by simp; exact ht
    clear ht HV2
    go_wp2
    go_ret2
    exact def_none 0 HE.out HB1.out
end Go.Proofs.YtleclhnlojalbaaGreatDoor
