/-
  The document's own Number: the number that a text says. Conditions: those that each theorem names.
-/
import Derived.Test.YtneadcbadnicfaaDoorRefGood
import Derived.Test.YtneadcbadnicfaaDoorRefSized
import Derived.Test.YtneadcbadnicfaaDoorLexNumber
namespace Go.Proofs.YtneadcbadnicfaaDoor
open Go.ChangeShapes Go.WideShapes Go.ChangeAt Go.RowKit Go.Shelf

theorem rnumber_bad (s : ByteArray) (size : Int) (sign : Bool) (w : World) (hs : s.size ≤ 281474976710656) (h : goodN (bts s) = false ∨ (goodN (bts s) = true ∧ ¬ (size = 1 ∨ size = 2 ∨ size = 4 ∨ size = 8))) :
    Calls Tryd.prog 29 #[.string s, .int .i64 size, .bool sign] w fun e w' => e = .returned (.tuple #[.int .u64 0, .bool false]) ∧ w = w' := by
  rcases h with h | ⟨h, h2⟩
  · have H := Lib.hid h
    clear h
    go_enter Tryd.func29, Tryd.ntmps29
    go_wp2_with fail
    refine (rgood_any s _ hs).mono ?_
    rintro e w1 ⟨rfl, rfl⟩
    rw [H.out]
    go_wp2
    go_ret2
    exact ⟨rfl, rfl⟩
  · have H := Lib.hid h
    have H2 := Lib.hid h2
    clear h h2
    go_enter Tryd.func29, Tryd.ntmps29
    go_wp2_with fail
    refine (rgood_any s _ hs).mono ?_
    rintro e w1 ⟨rfl, rfl⟩
    rw [H.out]
    go_wp2_with fail
    refine (rsized_no size _ H2.out).mono ?_
    rintro e w2 ⟨rfl, rfl⟩
    go_wp2
    go_ret2
    exact ⟨rfl, rfl⟩
/-- What the document's Number hands back: whether there is one, and if so, which. -/
def RNum (r : Option Nat) (w : World) (e : Ending) (w' : World) : Prop := ∃ x : Int, e = .returned (.tuple #[.int .u64 x, .bool r.isSome]) ∧ (∀ n, r = some n → x = n) ∧ w = w'
theorem rnum_none {w : World} {r : Option Nat} (x : Int) (h : r = none) : RNum r w (.returned (.tuple #[.int .u64 x, .bool false])) w := by
  subst h
  exact ⟨x, rfl, (fun n h => by cases h), rfl⟩
theorem rnum_some {w : World} {r : Option Nat} {x : Int} {n : Nat} (h : r = some n) (hx : x = n) : RNum r w (.returned (.tuple #[.int .u64 x, .bool true])) w := by
  subst h
  exact ⟨x, rfl, (fun m h => by cases h; exact hx), rfl⟩
theorem numV_of {zs : List Int} {size : Int} {sign : Bool} (h1 : goodN zs = true) (h3 : size = 1 ∨ size = 2 ∨ size = 4 ∨ size = 8) (h4 : decF 0 (digs zs) ≤ maxU) :
    numV zs size sign = if fitsB (decF 0 (digs zs)) (stA zs (isC 45) 0) size sign = true then some (if stA zs (isC 45) 0 = true then (18446744073709551616 - decF 0 (digs zs)) % 18446744073709551616 else decF 0 (digs zs)) else none := by
  unfold numV
  cases h5 : fitsB (decF 0 (digs zs)) (stA zs (isC 45) 0) size sign
  · rw [if_neg (fun hh => by have := hh.2.2.2; cases this), if_neg (by decide)]
  · rw [if_pos ⟨h1, (sized_iff size).2 h3, h4, rfl⟩, if_pos rfl]
theorem numV_no {zs : List Int} {size : Int} {sign : Bool} (h : goodN zs = false) : numV zs size sign = none := by
  unfold numV
  rw [if_neg (fun hh => by have := hh.1; rw [h] at this; cases this)]
theorem decF_take (ds : List Int) (k : Nat) (h : k < ds.length) : decF 0 (ds.take (k + 1)) = decF 0 (ds.take k) * 10 + ((ds.getD k 0).toNat - 48) := by
  rw [List.take_succ_eq_append_getElem h, decF_append, decF_cons, decF_nil]
  unfold dstep
  simp [List.getD, h]
theorem decF_take_le (ds : List Int) (k : Nat) : decF 0 (ds.take k) ≤ decF 0 ds := by
  conv => rhs; rw [← List.take_append_drop k ds, decF_append]
  exact decF_ge _ _
theorem fits_uns (v : Int) (size m : Int) (h : span size = m) : decide (v < m) = fitsB v false size false := by
  unfold fitsB
  rw [h, if_neg (by decide), Bool.not_false, Bool.true_and]
set_option maxRecDepth 100000 in
set_option maxHeartbeats 1600000 in
theorem rnumber_minus (s : ByteArray) (size : Int) (sign : Bool) (w : World) (hs : s.size ≤ 281474976710656) (h : goodN (bts s) = true) (h2 : size = 1 ∨ size = 2 ∨ size = 4 ∨ size = 8) (h3 : stA (bts s) (isC 45) 0 = true) :
    Calls Tryd.prog 29 #[.string s, .int .i64 size, .bool sign] w (RNum (numV (bts s) size sign) w) := by
  have h1 : 0 < s.size := by
    have := ((goodN_iff _).1 h).1
    rw [digs_length, bts_length] at this
    omega
  have H := Lib.hid h
  have H2 := Lib.hid h2
  have HV := Lib.hid (fun h4 => numV_of (sign := sign) h h2 h4)
  have HB4 := Lib.hid (fun h => numV_bad4 (zs := bts s) (size := size) (sign := sign) h)
  have HDG := Lib.hid (good_digs h).2
  have HDX := Lib.hid (show digs (bts s) = bts (s.extract 1 s.size) from by unfold digs; rw [if_pos h3, bts_extract])
  have t0 : ((s[0].toNat : Int) == 45) = true := by rw [← bts_get h1]; exact stA_p h3
  rw [h3] at HV
  generalize numV (bts s) size sign = r at HV HB4 ⊢
  clear h h2 h3
  go_enter Tryd.func29, Tryd.ntmps29
  go_wp2_with fail
  refine (rgood_any s _ hs).mono ?_
  rintro e w1 ⟨rfl, rfl⟩
  rw [H.out]
  go_wp2_with fail
  refine (rsized_yes size _ H2.out).mono ?_
  rintro e w2 ⟨rfl, rfl⟩
  go_wp2
  obtain ⟨d, hd⟩ : ∃ d, d = s.extract 1 s.size := ⟨_, rfl⟩
  rw [← hd]
  have HD := Lib.hid (show digs (bts s) = bts d from by rw [hd]; exact HDX.out)
  have hdl : d.size ≤ 281474976710656 := by rw [hd, extract_size]; omega
  clear hd HDX
  go_loop [10, 11] (fun n i => ∃ k : Nat, k ≤ d.size ∧ i = .int .i64 k ∧ n = .int .u64 (decF 0 ((bts d).take k) : Nat) ∧ ((decF 0 ((bts d).take k) : Nat) : Int) ≤ 18446744073709551615) (fun _ i => d.size - (intOf i).toNat)
  case atStart => exact ⟨0, Nat.zero_le _, rfl, rfl, by rw [List.take_zero, decF_nil]; decide⟩
  case round =>
    obtain ⟨k, hk, rfl, rfl, hle⟩ := hrel
    by_cases hlt : k < d.size
    · have HT := Lib.hid (decF_take (bts d) k (by rw [bts_length]; exact hlt))
      have hTle := decF_take_le (bts d) (k + 1)
      have hc := HDG.out ((bts d).getD k 0) (by rw [HD.out]; rw [List.getD, List.getElem?_eq_getElem (by rw [bts_length]; exact hlt)]; exact List.getElem_mem _)
      rw [bts_get hlt] at HT hc
      have HT2 := HT.out
      rw [show ((d[k].toNat : Int)).toNat = d[k].toNat from Int.toNat_natCast _] at HT2
      have HT' := Lib.hid HT2
      have HBB := Lib.hid (fun h => HB4.out (by rw [HD.out]; exact h))
      generalize decF 0 ((bts d).take k) = n at hle HT' ⊢
      have HN1 : Hid (n * 10 + (d[k].toNat - 48) ≤ decF 0 (bts d)) := by
        have e := HT'.out
        rw [e] at hTle
        exact hTle
      have HMX := Lib.hid (show maxU = 18446744073709551615 from rfl)
      clear HT2 HT hTle
      by_cases c1 : (1844674407370955161 : Int) < n
      · have t1 : decide ((1844674407370955161 : Int) < n) = true := by simpa using c1
        have HR := Lib.hid (HBB.out (by have h1 := HN1.out; have h2 := HMX.out; omega))
        go_wp2
        go_ret2
        exact rnum_none _ HR.out
      · have t1 : decide ((1844674407370955161 : Int) < n) = false := by simpa using c1
        by_cases c2 : (18446744073709551615 : Int) - ((d[k].toNat : Int) - 48) < n * 10
        · have HR := Lib.hid (HBB.out (by have h1 := HN1.out; have h2 := HMX.out; omega))
          go_wp2
          go_ret2
          exact rnum_none _ HR.out
        · go_wp2
          go_round
          case rel => exact ⟨k + 1, by omega, by go_num, by rw [HT'.out]; exact congrArg (Value.int .u64) (by omega), by rw [HT'.out]; omega⟩
          case measure => simp [intOf]; omega
    · have hke : k = d.size := by omega
      have HV' := Lib.hid HV.out
      rw [HD.out, show bts d = (bts d).take k from (List.take_of_length_le (by rw [bts_length]; omega)).symm] at HV'
      have HMX := Lib.hid (show maxU = 18446744073709551615 from rfl)
      generalize decF 0 ((bts d).take k) = n at hle HV' ⊢
      have HW := Lib.hid (HV'.out (by have h2 := HMX.out; omega))
      clear hke
      obtain rfl | rfl | rfl | rfl := H2.out
      · cases sign
        · have HR := Lib.hid (HW.out.trans (if_neg (by rw [show fitsB (n : Int) true 1 false = false from (fits_below _ _).symm]; decide)))
          go_wp2
          go_ret2
          exact rnum_none _ HR.out
        · by_cases hl : (128 : Int) < n
          · have HR := Lib.hid (HW.out.trans (if_neg (by rw [← fits_sb (n : Int) 1 128 half_1]; rw [decide_eq_false (by omega)]; simp; omega)))
            go_wp2
            go_ret2
            exact rnum_none _ HR.out
          · have HR := Lib.hid (HW.out.trans (if_pos (by rw [← fits_sb (n : Int) 1 128 half_1]; simp; omega)))
            go_wp2
            go_ret2
            exact rnum_some HR.out (xor_max n hle)
      · cases sign
        · have HR := Lib.hid (HW.out.trans (if_neg (by rw [show fitsB (n : Int) true 2 false = false from (fits_below _ _).symm]; decide)))
          go_wp2
          go_ret2
          exact rnum_none _ HR.out
        · by_cases hl : (32768 : Int) < n
          · have HR := Lib.hid (HW.out.trans (if_neg (by rw [← fits_sb (n : Int) 2 32768 half_2]; rw [decide_eq_false (by omega)]; simp; omega)))
            go_wp2
            go_ret2
            exact rnum_none _ HR.out
          · have HR := Lib.hid (HW.out.trans (if_pos (by rw [← fits_sb (n : Int) 2 32768 half_2]; simp; omega)))
            go_wp2
            go_ret2
            exact rnum_some HR.out (xor_max n hle)
      · cases sign
        · have HR := Lib.hid (HW.out.trans (if_neg (by rw [show fitsB (n : Int) true 4 false = false from (fits_below _ _).symm]; decide)))
          go_wp2
          go_ret2
          exact rnum_none _ HR.out
        · by_cases hl : (2147483648 : Int) < n
          · have HR := Lib.hid (HW.out.trans (if_neg (by rw [← fits_sb (n : Int) 4 2147483648 half_4]; rw [decide_eq_false (by omega)]; simp; omega)))
            go_wp2
            go_ret2
            exact rnum_none _ HR.out
          · have HR := Lib.hid (HW.out.trans (if_pos (by rw [← fits_sb (n : Int) 4 2147483648 half_4]; simp; omega)))
            go_wp2
            go_ret2
            exact rnum_some HR.out (xor_max n hle)
      · cases sign
        · have HR := Lib.hid (HW.out.trans (if_neg (by rw [show fitsB (n : Int) true 8 false = false from (fits_below _ _).symm]; decide)))
          go_wp2
          go_ret2
          exact rnum_none _ HR.out
        · by_cases hl : (9223372036854775808 : Int) < n
          · have HR := Lib.hid (HW.out.trans (if_neg (by rw [← fits_sb (n : Int) 8 9223372036854775808 half_8]; rw [decide_eq_false (by omega)]; simp; omega)))
            go_wp2
            go_ret2
            exact rnum_none _ HR.out
          · have HR := Lib.hid (HW.out.trans (if_pos (by rw [← fits_sb (n : Int) 8 9223372036854775808 half_8]; simp; omega)))
            go_wp2
            go_ret2
            exact rnum_some HR.out (xor_max n hle)
set_option maxRecDepth 100000 in
set_option maxHeartbeats 1600000 in
theorem rnumber_plain (s : ByteArray) (size : Int) (sign : Bool) (w : World) (hs : s.size ≤ 281474976710656) (h : goodN (bts s) = true) (h2 : size = 1 ∨ size = 2 ∨ size = 4 ∨ size = 8) (h3 : stA (bts s) (isC 45) 0 = false) :
    Calls Tryd.prog 29 #[.string s, .int .i64 size, .bool sign] w (RNum (numV (bts s) size sign) w) := by
  have h1 : 0 < s.size := by
    have := ((goodN_iff _).1 h).1
    rw [digs_length, bts_length] at this
    omega
  have H := Lib.hid h
  have H2 := Lib.hid h2
  have HV := Lib.hid (fun h4 => numV_of (sign := sign) h h2 h4)
  have HB4 := Lib.hid (fun h => numV_bad4 (zs := bts s) (size := size) (sign := sign) h)
  have HDG := Lib.hid (good_digs h).2
  have HDX := Lib.hid (show digs (bts s) = bts s from by unfold digs; rw [if_neg (by rw [h3]; decide)])
  have t0 : ((s[0].toNat : Int) == 45) = false := by
    rw [stA_of (by rw [bts_length]; exact h1)] at h3
    rw [← bts_get h1]
    exact h3
  rw [h3] at HV
  generalize numV (bts s) size sign = r at HV HB4 ⊢
  clear h h2 h3
  go_enter Tryd.func29, Tryd.ntmps29
  go_wp2_with fail
  refine (rgood_any s _ hs).mono ?_
  rintro e w1 ⟨rfl, rfl⟩
  rw [H.out]
  go_wp2_with fail
  refine (rsized_yes size _ H2.out).mono ?_
  rintro e w2 ⟨rfl, rfl⟩
  go_wp2
  obtain ⟨d, hd⟩ : ∃ d, d = s := ⟨_, rfl⟩
  have HD := Lib.hid (show digs (bts s) = bts d from by rw [hd]; exact HDX.out)
  subst hd
  have hdl := hs
  clear HDX
  go_loop [10, 11] (fun n i => ∃ k : Nat, k ≤ d.size ∧ i = .int .i64 k ∧ n = .int .u64 (decF 0 ((bts d).take k) : Nat) ∧ ((decF 0 ((bts d).take k) : Nat) : Int) ≤ 18446744073709551615) (fun _ i => d.size - (intOf i).toNat)
  case atStart => exact ⟨0, Nat.zero_le _, rfl, rfl, by rw [List.take_zero, decF_nil]; decide⟩
  case round =>
    obtain ⟨k, hk, rfl, rfl, hle⟩ := hrel
    by_cases hlt : k < d.size
    · have HT := Lib.hid (decF_take (bts d) k (by rw [bts_length]; exact hlt))
      have hTle := decF_take_le (bts d) (k + 1)
      have hc := HDG.out ((bts d).getD k 0) (by rw [HD.out]; rw [List.getD, List.getElem?_eq_getElem (by rw [bts_length]; exact hlt)]; exact List.getElem_mem _)
      rw [bts_get hlt] at HT hc
      have HT2 := HT.out
      rw [show ((d[k].toNat : Int)).toNat = d[k].toNat from Int.toNat_natCast _] at HT2
      have HT' := Lib.hid HT2
      have HBB := Lib.hid (fun h => HB4.out (by rw [HD.out]; exact h))
      generalize decF 0 ((bts d).take k) = n at hle HT' ⊢
      have HN1 : Hid (n * 10 + (d[k].toNat - 48) ≤ decF 0 (bts d)) := by
        have e := HT'.out
        rw [e] at hTle
        exact hTle
      have HMX := Lib.hid (show maxU = 18446744073709551615 from rfl)
      clear HT2 HT hTle
      by_cases c1 : (1844674407370955161 : Int) < n
      · have t1 : decide ((1844674407370955161 : Int) < n) = true := by simpa using c1
        have HR := Lib.hid (HBB.out (by have h1 := HN1.out; have h2 := HMX.out; omega))
        go_wp2
        go_ret2
        exact rnum_none _ HR.out
      · have t1 : decide ((1844674407370955161 : Int) < n) = false := by simpa using c1
        by_cases c2 : (18446744073709551615 : Int) - ((d[k].toNat : Int) - 48) < n * 10
        · have HR := Lib.hid (HBB.out (by have h1 := HN1.out; have h2 := HMX.out; omega))
          go_wp2
          go_ret2
          exact rnum_none _ HR.out
        · go_wp2
          go_round
          case rel => exact ⟨k + 1, by omega, by go_num, by rw [HT'.out]; exact congrArg (Value.int .u64) (by omega), by rw [HT'.out]; omega⟩
          case measure => simp [intOf]; omega
    · have hke : k = d.size := by omega
      have HV' := Lib.hid HV.out
      rw [HD.out, show bts d = (bts d).take k from (List.take_of_length_le (by rw [bts_length]; omega)).symm] at HV'
      have HMX := Lib.hid (show maxU = 18446744073709551615 from rfl)
      generalize decF 0 ((bts d).take k) = n at hle HV' ⊢
      have HW := Lib.hid (HV'.out (by have h2 := HMX.out; omega))
      clear hke
      obtain rfl | rfl | rfl | rfl := H2.out
      · cases sign
        · by_cases hl : (n : Int) < 256
          · have HR := Lib.hid (HW.out.trans (if_pos (by rw [← fits_uns (n : Int) 1 256 span_1]; exact decide_eq_true hl)))
            have tl : decide ((n : Int) ≤ 255) = true := by simp; omega
            go_wp2
            go_ret2
            exact rnum_some HR.out rfl
          · have HR := Lib.hid (HW.out.trans (if_neg (by rw [← fits_uns (n : Int) 1 256 span_1, decide_eq_false hl]; decide)))
            have tl : decide ((n : Int) ≤ 255) = false := by simp; omega
            go_wp2
            go_ret2
            exact rnum_none _ HR.out
        · by_cases hl : (n : Int) < 128
          · have HR := Lib.hid (HW.out.trans (if_pos (by rw [← fits_sg (n : Int) 1 128 half_1]; exact decide_eq_true hl)))
            have tl : decide ((n : Int) ≤ 127) = true := by simp; omega
            go_wp2
            go_ret2
            exact rnum_some HR.out rfl
          · have HR := Lib.hid (HW.out.trans (if_neg (by rw [← fits_sg (n : Int) 1 128 half_1, decide_eq_false hl]; decide)))
            have tl : decide ((n : Int) ≤ 127) = false := by simp; omega
            go_wp2
            go_ret2
            exact rnum_none _ HR.out
      · cases sign
        · by_cases hl : (n : Int) < 65536
          · have HR := Lib.hid (HW.out.trans (if_pos (by rw [← fits_uns (n : Int) 2 65536 span_2]; exact decide_eq_true hl)))
            have tl : decide ((n : Int) ≤ 65535) = true := by simp; omega
            go_wp2
            go_ret2
            exact rnum_some HR.out rfl
          · have HR := Lib.hid (HW.out.trans (if_neg (by rw [← fits_uns (n : Int) 2 65536 span_2, decide_eq_false hl]; decide)))
            have tl : decide ((n : Int) ≤ 65535) = false := by simp; omega
            go_wp2
            go_ret2
            exact rnum_none _ HR.out
        · by_cases hl : (n : Int) < 32768
          · have HR := Lib.hid (HW.out.trans (if_pos (by rw [← fits_sg (n : Int) 2 32768 half_2]; exact decide_eq_true hl)))
            have tl : decide ((n : Int) ≤ 32767) = true := by simp; omega
            go_wp2
            go_ret2
            exact rnum_some HR.out rfl
          · have HR := Lib.hid (HW.out.trans (if_neg (by rw [← fits_sg (n : Int) 2 32768 half_2, decide_eq_false hl]; decide)))
            have tl : decide ((n : Int) ≤ 32767) = false := by simp; omega
            go_wp2
            go_ret2
            exact rnum_none _ HR.out
      · cases sign
        · by_cases hl : (n : Int) < 4294967296
          · have HR := Lib.hid (HW.out.trans (if_pos (by rw [← fits_uns (n : Int) 4 4294967296 span_4]; exact decide_eq_true hl)))
            have tl : decide ((n : Int) ≤ 4294967295) = true := by simp; omega
            go_wp2
            go_ret2
            exact rnum_some HR.out rfl
          · have HR := Lib.hid (HW.out.trans (if_neg (by rw [← fits_uns (n : Int) 4 4294967296 span_4, decide_eq_false hl]; decide)))
            have tl : decide ((n : Int) ≤ 4294967295) = false := by simp; omega
            go_wp2
            go_ret2
            exact rnum_none _ HR.out
        · by_cases hl : (n : Int) < 2147483648
          · have HR := Lib.hid (HW.out.trans (if_pos (by rw [← fits_sg (n : Int) 4 2147483648 half_4]; exact decide_eq_true hl)))
            have tl : decide ((n : Int) ≤ 2147483647) = true := by simp; omega
            go_wp2
            go_ret2
            exact rnum_some HR.out rfl
          · have HR := Lib.hid (HW.out.trans (if_neg (by rw [← fits_sg (n : Int) 4 2147483648 half_4, decide_eq_false hl]; decide)))
            have tl : decide ((n : Int) ≤ 2147483647) = false := by simp; omega
            go_wp2
            go_ret2
            exact rnum_none _ HR.out
      · cases sign
        · have hl : (n : Int) < 18446744073709551616 := by omega
          have HR := Lib.hid (HW.out.trans (if_pos (by rw [← fits_uns (n : Int) 8 18446744073709551616 span_8]; exact decide_eq_true hl)))
          have tl : decide ((n : Int) ≤ 18446744073709551615) = true := by simp; omega
          go_wp2
          go_ret2
          exact rnum_some HR.out rfl
        · by_cases hl : (n : Int) < 9223372036854775808
          · have HR := Lib.hid (HW.out.trans (if_pos (by rw [← fits_sg (n : Int) 8 9223372036854775808 half_8]; exact decide_eq_true hl)))
            have tl : decide ((n : Int) ≤ 9223372036854775807) = true := by simp; omega
            go_wp2
            go_ret2
            exact rnum_some HR.out rfl
          · have HR := Lib.hid (HW.out.trans (if_neg (by rw [← fits_sg (n : Int) 8 9223372036854775808 half_8, decide_eq_false hl]; decide)))
            have tl : decide ((n : Int) ≤ 9223372036854775807) = false := by simp; omega
            go_wp2
            go_ret2
            exact rnum_none _ HR.out
theorem rnumber_any (s : ByteArray) (size : Int) (sign : Bool) (w : World) (hs : s.size ≤ 281474976710656) :
    Calls Tryd.prog 29 #[.string s, .int .i64 size, .bool sign] w (RNum (numV (bts s) size sign) w) := by
  have h0 : ∀ e w', (e = .returned (.tuple #[.int .u64 0, .bool false]) ∧ w = w') → numV (bts s) size sign = none → RNum (numV (bts s) size sign) w e w' := by
    rintro e w' ⟨rfl, rfl⟩ h
    exact rnum_none 0 h
  cases hg : goodN (bts s)
  · exact (rnumber_bad s size sign w hs (.inl hg)).mono fun e w' h => h0 e w' h (numV_no hg)
  · by_cases h2 : size = 1 ∨ size = 2 ∨ size = 4 ∨ size = 8
    · cases h3 : stA (bts s) (isC 45) 0
      · exact rnumber_plain s size sign w hs hg h2 h3
      · exact rnumber_minus s size sign w hs hg h2 h3
    · exact (rnumber_bad s size sign w hs (.inr ⟨hg, h2⟩)).mono fun e w' h => h0 e w' h (numV_bad3 h2)
end Go.Proofs.YtneadcbadnicfaaDoor
