/-
  Texts as bytes: two of the same bytes are one; a part's bytes; each token of a text is fine, no longer than the text, and of bytes. Conditions: those that each theorem names.
-/
import Derived.Test.YtleclhnlojalbaaGreatDoorPkL1
import Derived.Test.YtleclhnlojalbaaGreatDoorPkL3
import Derived.Test.YtleclhnlojalbaaGreatDoorPkL5
import Derived.Test.YtleclhnlojalbaaGreatDoorPkL6
import Derived.Test.YtleclhnlojalbaaGreatDoorPkL8
import Derived.Test.YtleclhnlojalbaaGreatDoorPkL11
import Derived.Deep.Cut
import Derived.Lib.Strings
import Derived.Lib.ConvBytes
import Derived.Lib.AtoiErrMem
namespace Go.Proofs.YtleclhnlojalbaaGreatDoor
open Go.ChangeShapes Go.WideShapes Go.ChangeAt Go.RowKit Go.Shelf

theorem goodN_no (zs : List Int) (h : (digs zs).length < 1 ∨ 20 < (digs zs).length ∨ (1 < (digs zs).length ∧ (digs zs).getD 0 0 = 48) ∨ zs = [45, 48] ∨ ∃ j, j < (digs zs).length ∧ isDig ((digs zs).getD j 0) = false) : goodN zs = false := by
  cases hg : goodN zs
  · rfl
  · obtain ⟨a1, a2, a3, a4, a5⟩ := (goodN_iff zs).1 hg
    rcases h with h | h | h | h | ⟨j, h1, h2⟩
    · omega
    · omega
    · exact absurd h a3
    · exact absurd h a4
    · rw [a5 j h1] at h2
      cases h2
theorem goodN_yes (zs : List Int) (h1 : 1 ≤ (digs zs).length) (h2 : (digs zs).length ≤ 20) (h3 : ¬ (1 < (digs zs).length ∧ (digs zs).getD 0 0 = 48)) (h4 : zs ≠ [45, 48]) (h5 : ∀ j, j < (digs zs).length → isDig ((digs zs).getD j 0) = true) : goodN zs = true :=
  (goodN_iff zs).2 ⟨h1, h2, h3, h4, h5⟩
theorem bts_extract (s : ByteArray) : bts (s.extract 1 s.size) = (bts s).drop 1 := by
  unfold bts
  rw [Lib.extract_data, List.take_of_length_le (by simp)]
  simp
theorem extract_size (s : ByteArray) : (s.extract 1 s.size).size = s.size - 1 := by
  rw [← bts_length, bts_extract, List.length_drop, bts_length]
theorem bts_toList (s : ByteArray) (l : List UInt8) : (s.toList == l) = decide (bts s = l.map fun b => (b.toNat : Int)) := by
  rw [ByteArray.toList_eq, Bool.eq_iff_iff, beq_iff_eq, decide_eq_true_iff]
  unfold bts
  constructor
  · intro h; rw [h]
  · intro h
    have hinj : ∀ (a b : List UInt8), a.map (fun b => (b.toNat : Int)) = b.map (fun b => (b.toNat : Int)) → a = b := by
      intro a
      induction a with
      | nil => intro b hb; cases b with
        | nil => rfl
        | cons => cases hb
      | cons x r ih => intro b hb; cases b with
        | nil => cases hb
        | cons y q =>
          simp only [List.map_cons, List.cons.injEq] at hb
          have hxy : x = y := UInt8.toNat_inj.1 (by omega)
          rw [ih q hb.2, hxy]
    exact hinj _ _ h
set_option maxRecDepth 100000 in
theorem rgood_minus (s : ByteArray) (w : World) (hs : s.size ≤ 281474976710656) (h : stA (bts s) (isC 45) 0 = true) :
    Calls Tryz.prog 104 #[.string s] w fun e w' => e = .returned (.bool (goodN (bts s))) ∧ w = w' := by
  have h1 : 1 ≤ s.size := by have := stA_lt h; rw [bts_length] at this; omega
  have H := Lib.hid (of_decide_eq_true (show decide ((bts s).getD 0 0 = 45) = true from stA_p h))
  have HDX := Lib.hid (show digs (bts s) = bts (s.extract 1 s.size) from by unfold digs; rw [if_pos h, bts_extract])
  obtain ⟨r, hr⟩ : ∃ r, goodN (bts s) = r := ⟨_, rfl⟩
  have HR := Lib.hid hr
  rw [hr]
  clear h hr
  go_enter Tryz.func104, Tryz.ntmps104
  go_wp2_with fail
  refine (at_any s _ 0 _ rfl).mono ?_
  rintro e w1 ⟨rfl, rfl⟩
  rw [H.out]
  go_upto_region 4 with (fail)
  obtain ⟨d, hd⟩ : ∃ d, d = s.extract 1 s.size := ⟨_, rfl⟩
  rw [← hd]
  have HD : Hid (digs (bts s) = bts d) := by rw [hd]; exact HDX.out
  have hdl : d.size ≤ 281474976710656 := by rw [hd, extract_size]; omega
  have HMS := Lib.hid (show s.size = d.size + 1 from by rw [hd, extract_size]; omega)
  clear hd HDX
  by_cases c1 : d.size < 1
  · have t1 : decide ((d.size : Int) < 1) = true := by simp; omega
    have HF := Lib.hid (HR.out.symm.trans (goodN_no (bts s) (by rw [HD.out, bts_length]; exact .inl c1)))
    go_wp2
    go_ret
    exact ⟨ret_bool HF.out.symm, rfl⟩
  have t1 : decide ((d.size : Int) < 1) = false := by simp; omega
  have p1 : 0 < d.size := by omega
  by_cases c2 : 20 < d.size
  · have t2 : decide (20 < (d.size : Int)) = true := by simp; omega
    have HF := Lib.hid (HR.out.symm.trans (goodN_no (bts s) (by rw [HD.out, bts_length]; exact .inr (.inl c2))))
    go_wp2
    go_ret
    exact ⟨ret_bool HF.out.symm, rfl⟩
  have t2 : decide (20 < (d.size : Int)) = false := by simp; omega
  have HG0 := Lib.hid (bts_get p1)
  have t6 : (s.toList == [45, 48]) = decide (bts s = [45, 48]) := bts_toList s _
  have H6 := Lib.hid t6
  clear t6
  by_cases c6 : bts s = [45, 48]
  · have HF := Lib.hid (HR.out.symm.trans (goodN_no (bts s) (.inr (.inr (.inr (.inl c6))))))
    have t6 : (s.toList == [45, 48]) = true := by rw [H6.out, decide_eq_true c6]
    have t3 : decide (1 < (d.size : Int)) = false := by
      have h1 := congrArg List.length c6
      have h2 := HMS.out
      rw [bts_length] at h1
      simp at h1 ⊢
      omega
    clear c6
    go_wp2
    go_ret
    exact ⟨ret_bool HF.out.symm, rfl⟩
  have t6 : (s.toList == [45, 48]) = false := by rw [H6.out, decide_eq_false c6]
  have HC6 := Lib.hid c6
  clear c6
  by_cases c3 : 1 < d.size ∧ (bts d).getD 0 0 = 48
  · have HF := Lib.hid (HR.out.symm.trans (goodN_no (bts s) (by rw [HD.out, bts_length]; exact .inr (.inr (.inl c3)))))
    have t3 : decide (1 < (d.size : Int)) = true := by simp; omega
    have c4 := c3.2
    rw [HG0.out] at c4
    have t4 : ((d[0].toNat : Int) == 48) = true := by simp only [beq_iff_eq]; exact c4
    clear c3 c4
    go_wp2
    go_ret
    exact ⟨ret_bool HF.out.symm, rfl⟩
  have HC3 := Lib.hid c3
  have key : ∀ b3 b4 : Bool, decide (1 < (d.size : Int)) = b3 → ((d[0].toNat : Int) == 48) = b4 → (b3 && b4) = false := by
    intro b3 b4 h3 h4
    rw [← h3, ← h4]
    cases hb : decide (1 < (d.size : Int))
    · rfl
    · cases hb4 : ((d[0].toNat : Int) == 48)
      · rfl
      · exfalso
        refine HC3.out ⟨?_, ?_⟩
        · have := of_decide_eq_true hb
          omega
        · rw [HG0.out]
          exact beq_iff_eq.1 hb4
  clear c3
  obtain ⟨b3, t3⟩ : ∃ b, decide (1 < (d.size : Int)) = b := ⟨_, rfl⟩
  obtain ⟨b4, t4⟩ : ∃ b, ((d[0].toNat : Int) == 48) = b := ⟨_, rfl⟩
  have KB := Lib.hid (key b3 b4 t3 t4)
  clear key
  cases b3
  all_goals
    try (rw [Bool.true_and] at KB; have kb := KB.out; subst kb)
    go_wp2
    go_loop [4] (fun i => ∃ k : Nat, k ≤ d.size ∧ i = .int .i64 k ∧ ∀ j, j < k → isDig ((bts d).getD j 0) = true) (fun i => d.size - (intOf i).toNat)
    case atStart => exact ⟨0, Nat.zero_le _, rfl, fun j hj => absurd hj (Nat.not_lt_zero j)⟩
    case round =>
      obtain ⟨k, hk, rfl, hall⟩ := hrel
      have HA := Lib.hid hall
      clear hall
      by_cases hlt : k < d.size
      · have HGK := Lib.hid (bts_get hlt)
        cases hq : isDig ((d[k].toNat : Int))
        · have HQ := Lib.hid hq
          have HF := Lib.hid (HR.out.symm.trans (goodN_no (bts s) (by rw [HD.out, bts_length]; exact .inr (.inr (.inr (.inr ⟨k, hlt, by rw [HGK.out]; exact HQ.out⟩))))))
          clear hq
          go_wp2_with fail
          refine (rdigit_any _ _).mono ?_
          rintro e w2 ⟨rfl, rfl⟩
          rw [HQ.out]
          go_wp2
          go_ret
          exact ⟨ret_bool HF.out.symm, rfl⟩
        · have HQ := Lib.hid hq
          clear hq
          go_wp2_with fail
          refine (rdigit_any _ _).mono ?_
          rintro e w2 ⟨rfl, rfl⟩
          rw [HQ.out]
          go_wp2
          go_round
          case rel => exact ⟨k + 1, by omega, by go_num, fun j hj => by
            rcases Nat.lt_or_ge j k with h | h
            · exact HA.out j h
            · obtain rfl : j = k := by omega
              rw [HGK.out]
              exact HQ.out⟩
          case measure => simp [intOf]; omega
      · have hke : k = d.size := by omega
        have HF := Lib.hid (HR.out.symm.trans (goodN_yes (bts s) (by rw [HD.out, bts_length]; omega) (by rw [HD.out, bts_length]; omega) (by rw [HD.out, bts_length]; exact HC3.out) HC6.out (by rw [HD.out, bts_length]; exact fun j hj => HA.out j (by omega))))
        clear hke
        go_wp2
        go_ret
        exact ⟨ret_bool HF.out.symm, rfl⟩
set_option maxRecDepth 100000 in
theorem rgood_plain (s : ByteArray) (w : World) (hs : s.size ≤ 281474976710656) (h : stA (bts s) (isC 45) 0 = false) :
    Calls Tryz.prog 104 #[.string s] w fun e w' => e = .returned (.bool (goodN (bts s))) ∧ w = w' := by
  have t0 : ((bts s).getD 0 0 == 45) = false := by
    by_cases hi : 0 < s.size
    · rw [stA_of (by rw [bts_length]; exact hi)] at h
      exact h
    · rw [bts_end (by omega)]
      rfl
  have HDX := Lib.hid (show digs (bts s) = bts s from by unfold digs; rw [if_neg (by rw [h]; decide)])
  obtain ⟨r, hr⟩ : ∃ r, goodN (bts s) = r := ⟨_, rfl⟩
  have HR := Lib.hid hr
  rw [hr]
  clear h hr
  go_enter Tryz.func104, Tryz.ntmps104
  go_wp2_with fail
  refine (at_any s _ 0 _ rfl).mono ?_
  rintro e w1 ⟨rfl, rfl⟩
  generalize (bts s).getD 0 0 = z0 at t0 ⊢
  go_upto_region 4 with (fail)
  obtain ⟨d, hd⟩ : ∃ d, d = s := ⟨_, rfl⟩
  have HD : Hid (digs (bts s) = bts d) := by rw [hd]; exact HDX.out
  subst hd
  have hdl := hs
  have HMS : Hid (d.size = d.size) := rfl
  clear HDX
  by_cases c1 : d.size < 1
  · have t1 : decide ((d.size : Int) < 1) = true := by simp; omega
    have HF := Lib.hid (HR.out.symm.trans (goodN_no (bts d) (by rw [HD.out, bts_length]; exact .inl c1)))
    go_wp2
    go_ret
    exact ⟨ret_bool HF.out.symm, rfl⟩
  have t1 : decide ((d.size : Int) < 1) = false := by simp; omega
  have p1 : 0 < d.size := by omega
  by_cases c2 : 20 < d.size
  · have t2 : decide (20 < (d.size : Int)) = true := by simp; omega
    have HF := Lib.hid (HR.out.symm.trans (goodN_no (bts d) (by rw [HD.out, bts_length]; exact .inr (.inl c2))))
    go_wp2
    go_ret
    exact ⟨ret_bool HF.out.symm, rfl⟩
  have t2 : decide (20 < (d.size : Int)) = false := by simp; omega
  have HG0 := Lib.hid (bts_get p1)
  have t6 : (d.toList == [45, 48]) = decide (bts d = [45, 48]) := bts_toList d _
  have H6 := Lib.hid t6
  clear t6
  by_cases c6 : bts d = [45, 48]
  · have HF := Lib.hid (HR.out.symm.trans (goodN_no (bts d) (.inr (.inr (.inr (.inl c6))))))
    have t6 : (d.toList == [45, 48]) = true := by rw [H6.out, decide_eq_true c6]
    exfalso
    have h1 := congrArg (fun l => digs l) c6
    have h2 := congrArg List.length (HD.out.symm.trans h1)
    have h3 := congrArg List.length c6
    rw [h3] at h2
    exact absurd h2 (by decide)
  have t6 : (d.toList == [45, 48]) = false := by rw [H6.out, decide_eq_false c6]
  have HC6 := Lib.hid c6
  clear c6
  by_cases c3 : 1 < d.size ∧ (bts d).getD 0 0 = 48
  · have HF := Lib.hid (HR.out.symm.trans (goodN_no (bts d) (by rw [HD.out, bts_length]; exact .inr (.inr (.inl c3)))))
    have t3 : decide (1 < (d.size : Int)) = true := by simp; omega
    have c4 := c3.2
    rw [HG0.out] at c4
    have t4 : ((d[0].toNat : Int) == 48) = true := by simp only [beq_iff_eq]; exact c4
    clear c3 c4
    go_wp2
    go_ret
    exact ⟨ret_bool HF.out.symm, rfl⟩
  have HC3 := Lib.hid c3
  have key : ∀ b3 b4 : Bool, decide (1 < (d.size : Int)) = b3 → ((d[0].toNat : Int) == 48) = b4 → (b3 && b4) = false := by
    intro b3 b4 h3 h4
    rw [← h3, ← h4]
    cases hb : decide (1 < (d.size : Int))
    · rfl
    · cases hb4 : ((d[0].toNat : Int) == 48)
      · rfl
      · exfalso
        refine HC3.out ⟨?_, ?_⟩
        · have := of_decide_eq_true hb
          omega
        · rw [HG0.out]
          exact beq_iff_eq.1 hb4
  clear c3
  obtain ⟨b3, t3⟩ : ∃ b, decide (1 < (d.size : Int)) = b := ⟨_, rfl⟩
  obtain ⟨b4, t4⟩ : ∃ b, ((d[0].toNat : Int) == 48) = b := ⟨_, rfl⟩
  have KB := Lib.hid (key b3 b4 t3 t4)
  clear key
  cases b3
  all_goals
    try (rw [Bool.true_and] at KB; have kb := KB.out; subst kb)
    go_wp2
    go_loop [4] (fun i => ∃ k : Nat, k ≤ d.size ∧ i = .int .i64 k ∧ ∀ j, j < k → isDig ((bts d).getD j 0) = true) (fun i => d.size - (intOf i).toNat)
    case atStart => exact ⟨0, Nat.zero_le _, rfl, fun j hj => absurd hj (Nat.not_lt_zero j)⟩
    case round =>
      obtain ⟨k, hk, rfl, hall⟩ := hrel
      have HA := Lib.hid hall
      clear hall
      by_cases hlt : k < d.size
      · have HGK := Lib.hid (bts_get hlt)
        cases hq : isDig ((d[k].toNat : Int))
        · have HQ := Lib.hid hq
          have HF := Lib.hid (HR.out.symm.trans (goodN_no (bts d) (by rw [HD.out, bts_length]; exact .inr (.inr (.inr (.inr ⟨k, hlt, by rw [HGK.out]; exact HQ.out⟩))))))
          clear hq
          go_wp2_with fail
          refine (rdigit_any _ _).mono ?_
          rintro e w2 ⟨rfl, rfl⟩
          rw [HQ.out]
          go_wp2
          go_ret
          exact ⟨ret_bool HF.out.symm, rfl⟩
        · have HQ := Lib.hid hq
          clear hq
          go_wp2_with fail
          refine (rdigit_any _ _).mono ?_
          rintro e w2 ⟨rfl, rfl⟩
          rw [HQ.out]
          go_wp2
          go_round
          case rel => exact ⟨k + 1, by omega, by go_num, fun j hj => by
            rcases Nat.lt_or_ge j k with h | h
            · exact HA.out j h
            · obtain rfl : j = k := by omega
              rw [HGK.out]
              exact HQ.out⟩
          case measure => simp [intOf]; omega
      · have hke : k = d.size := by omega
        have HF := Lib.hid (HR.out.symm.trans (goodN_yes (bts d) (by rw [HD.out, bts_length]; omega) (by rw [HD.out, bts_length]; omega) (by rw [HD.out, bts_length]; exact HC3.out) HC6.out (by rw [HD.out, bts_length]; exact fun j hj => HA.out j (by omega))))
        clear hke
        go_wp2
        go_ret
        exact ⟨ret_bool HF.out.symm, rfl⟩
theorem rgood_any (s : ByteArray) (w : World) (hs : s.size ≤ 281474976710656) :
    Calls Tryz.prog 104 #[.string s] w fun e w' => e = .returned (.bool (goodN (bts s))) ∧ w = w' := by
  cases h : stA (bts s) (isC 45) 0
  · exact rgood_plain s w hs h
  · exact rgood_minus s w hs h
end Go.Proofs.YtleclhnlojalbaaGreatDoor
namespace Go.Proofs.YtleclhnlojalbaaGreatDoor
open Go.ChangeShapes Go.WideShapes Go.ChangeAt Go.RowKit Go.Shelf

theorem fits_un (v : Int) (size m : Int) (h : span size = m) (hm : 0 < m) (h0 : 0 ≤ v) : (v / m == 0) = fitsB v false size false := by
  unfold fitsB
  rw [h, if_neg (by decide), Bool.not_false, Bool.true_and, Bool.eq_iff_iff, beq_iff_eq, decide_eq_true_iff]
  constructor
  · intro hz
    have h1 := Int.emod_lt_of_pos v hm
    have h2 := Int.mul_ediv_add_emod v m
    rw [hz, Int.mul_zero] at h2
    omega
  · intro hl
    exact Int.ediv_eq_zero_of_lt h0 hl
theorem fits_below (v : Int) (size : Int) : false = fitsB v true size false := by
  unfold fitsB
  rw [if_neg (by decide), Bool.not_true, Bool.false_and]
theorem fits_sg (v : Int) (size m : Int) (h : span size / 2 = m) : decide (v < m) = fitsB v false size true := by
  unfold fitsB
  rw [h, if_pos rfl, Bool.false_and, Bool.or_false]
theorem fits_sb (v : Int) (size m : Int) (h : span size / 2 = m) : (decide (v < m) || v == m) = fitsB v true size true := by
  unfold fitsB
  rw [h, if_pos rfl, Bool.true_and]
  rfl
theorem span_1 : span 1 = 256 := rfl
theorem span_2 : span 2 = 65536 := rfl
theorem span_4 : span 4 = 4294967296 := rfl
theorem span_8 : span 8 = 18446744073709551616 := rfl
theorem half_1 : span 1 / 2 = 128 := rfl
theorem half_2 : span 2 / 2 = 32768 := rfl
theorem half_4 : span 4 / 2 = 2147483648 := rfl
theorem half_8 : span 8 / 2 = 9223372036854775808 := rfl
set_option maxHeartbeats 1000000 in
theorem fits_any (v : Int) (below : Bool) (size : Int) (sign : Bool) (w : World) (h0 : 0 ≤ v) (hs : size = 1 ∨ size = 2 ∨ size = 4 ∨ size = 8) :
    Calls Tryz.prog 158 #[.int .u64 v, .bool below, .int .i64 size, .bool sign] w fun e w' => e = .returned (.bool (fitsB v below size sign)) ∧ w = w' := by
  rcases hs with rfl | rfl | rfl | rfl
  · cases sign <;> cases below
    · have e := Lib.hid (fits_un v 1 256 span_1 (by decide) h0)
      go_enter Tryz.func158, Tryz.ntmps158
      go_wp2
      all_goals
        go_ret
        exact ⟨ret_bool e.out, rfl⟩
    · have e := Lib.hid (fits_below v 1)
      go_enter Tryz.func158, Tryz.ntmps158
      go_wp2
      all_goals
        go_ret
        exact ⟨ret_bool e.out, rfl⟩
    · by_cases hl : v < 128
      · have e := Lib.hid (fits_sg v 1 128 half_1)
        have t : decide (v < 128) = true := by simpa using hl
        rw [t] at e
        go_enter Tryz.func158, Tryz.ntmps158
        go_wp2
        go_ret
        exact ⟨ret_bool (e.out), rfl⟩
      · have e := Lib.hid (fits_sg v 1 128 half_1)
        have t : decide (v < 128) = false := by simpa using hl
        rw [t] at e
        go_enter Tryz.func158, Tryz.ntmps158
        go_wp2
        go_ret
        exact ⟨ret_bool (e.out), rfl⟩
    · by_cases hl : v < 128
      · have e := Lib.hid (fits_sb v 1 128 half_1)
        have t : decide (v < 128) = true := by simpa using hl
        rw [t] at e
        go_enter Tryz.func158, Tryz.ntmps158
        go_wp2
        go_ret
        exact ⟨ret_bool (e.out), rfl⟩
      · have e := Lib.hid (fits_sb v 1 128 half_1)
        have t : decide (v < 128) = false := by simpa using hl
        rw [t] at e
        go_enter Tryz.func158, Tryz.ntmps158
        go_wp2
        go_ret
        exact ⟨ret_bool (e.out), rfl⟩
  · cases sign <;> cases below
    · have e := Lib.hid (fits_un v 2 65536 span_2 (by decide) h0)
      go_enter Tryz.func158, Tryz.ntmps158
      go_wp2
      all_goals
        go_ret
        exact ⟨ret_bool e.out, rfl⟩
    · have e := Lib.hid (fits_below v 2)
      go_enter Tryz.func158, Tryz.ntmps158
      go_wp2
      all_goals
        go_ret
        exact ⟨ret_bool e.out, rfl⟩
    · by_cases hl : v < 32768
      · have e := Lib.hid (fits_sg v 2 32768 half_2)
        have t : decide (v < 32768) = true := by simpa using hl
        rw [t] at e
        go_enter Tryz.func158, Tryz.ntmps158
        go_wp2
        go_ret
        exact ⟨ret_bool (e.out), rfl⟩
      · have e := Lib.hid (fits_sg v 2 32768 half_2)
        have t : decide (v < 32768) = false := by simpa using hl
        rw [t] at e
        go_enter Tryz.func158, Tryz.ntmps158
        go_wp2
        go_ret
        exact ⟨ret_bool (e.out), rfl⟩
    · by_cases hl : v < 32768
      · have e := Lib.hid (fits_sb v 2 32768 half_2)
        have t : decide (v < 32768) = true := by simpa using hl
        rw [t] at e
        go_enter Tryz.func158, Tryz.ntmps158
        go_wp2
        go_ret
        exact ⟨ret_bool (e.out), rfl⟩
      · have e := Lib.hid (fits_sb v 2 32768 half_2)
        have t : decide (v < 32768) = false := by simpa using hl
        rw [t] at e
        go_enter Tryz.func158, Tryz.ntmps158
        go_wp2
        go_ret
        exact ⟨ret_bool (e.out), rfl⟩
  · cases sign <;> cases below
    · have e := Lib.hid (fits_un v 4 4294967296 span_4 (by decide) h0)
      go_enter Tryz.func158, Tryz.ntmps158
      go_wp2
      all_goals
        go_ret
        exact ⟨ret_bool e.out, rfl⟩
    · have e := Lib.hid (fits_below v 4)
      go_enter Tryz.func158, Tryz.ntmps158
      go_wp2
      all_goals
        go_ret
        exact ⟨ret_bool e.out, rfl⟩
    · by_cases hl : v < 2147483648
      · have e := Lib.hid (fits_sg v 4 2147483648 half_4)
        have t : decide (v < 2147483648) = true := by simpa using hl
        rw [t] at e
        go_enter Tryz.func158, Tryz.ntmps158
        go_wp2
        go_ret
        exact ⟨ret_bool (e.out), rfl⟩
      · have e := Lib.hid (fits_sg v 4 2147483648 half_4)
        have t : decide (v < 2147483648) = false := by simpa using hl
        rw [t] at e
        go_enter Tryz.func158, Tryz.ntmps158
        go_wp2
        go_ret
        exact ⟨ret_bool (e.out), rfl⟩
    · by_cases hl : v < 2147483648
      · have e := Lib.hid (fits_sb v 4 2147483648 half_4)
        have t : decide (v < 2147483648) = true := by simpa using hl
        rw [t] at e
        go_enter Tryz.func158, Tryz.ntmps158
        go_wp2
        go_ret
        exact ⟨ret_bool (e.out), rfl⟩
      · have e := Lib.hid (fits_sb v 4 2147483648 half_4)
        have t : decide (v < 2147483648) = false := by simpa using hl
        rw [t] at e
        go_enter Tryz.func158, Tryz.ntmps158
        go_wp2
        go_ret
        exact ⟨ret_bool (e.out), rfl⟩
  · cases sign <;> cases below
    · have e := Lib.hid (fits_un v 8 18446744073709551616 span_8 (by decide) h0)
      go_enter Tryz.func158, Tryz.ntmps158
      go_wp2
      all_goals
        go_ret
        exact ⟨ret_bool e.out, rfl⟩
    · have e := Lib.hid (fits_below v 8)
      go_enter Tryz.func158, Tryz.ntmps158
      go_wp2
      all_goals
        go_ret
        exact ⟨ret_bool e.out, rfl⟩
    · by_cases hl : v < 9223372036854775808
      · have e := Lib.hid (fits_sg v 8 9223372036854775808 half_8)
        have t : decide (v < 9223372036854775808) = true := by simpa using hl
        rw [t] at e
        go_enter Tryz.func158, Tryz.ntmps158
        go_wp2
        go_ret
        exact ⟨ret_bool (e.out), rfl⟩
      · have e := Lib.hid (fits_sg v 8 9223372036854775808 half_8)
        have t : decide (v < 9223372036854775808) = false := by simpa using hl
        rw [t] at e
        go_enter Tryz.func158, Tryz.ntmps158
        go_wp2
        go_ret
        exact ⟨ret_bool (e.out), rfl⟩
    · by_cases hl : v < 9223372036854775808
      · have e := Lib.hid (fits_sb v 8 9223372036854775808 half_8)
        have t : decide (v < 9223372036854775808) = true := by simpa using hl
        rw [t] at e
        go_enter Tryz.func158, Tryz.ntmps158
        go_wp2
        go_ret
        exact ⟨ret_bool (e.out), rfl⟩
      · have e := Lib.hid (fits_sb v 8 9223372036854775808 half_8)
        have t : decide (v < 9223372036854775808) = false := by simpa using hl
        rw [t] at e
        go_enter Tryz.func158, Tryz.ntmps158
        go_wp2
        go_ret
        exact ⟨ret_bool (e.out), rfl⟩
end Go.Proofs.YtleclhnlojalbaaGreatDoor
namespace Go.Proofs.YtleclhnlojalbaaGreatDoor
open Go.ChangeShapes Go.WideShapes Go.ChangeAt Go.RowKit Go.Shelf

def ErrV (w : World) : Prop := ∃ t v, w.cell? ⟨4, 0, none⟩ = some (.iface t v)
theorem ErrV.later {w w' : World} (h : ErrV w) (hb : Below w.heap.size w w') : ErrV w' := by
  obtain ⟨t, v, h⟩ := h
  exact ⟨t, v, (hb.cell (p := ⟨4, 0, none⟩) (World.block_lt_of_cell? _ _ h)).trans h⟩
def numR : Option Nat → Value
  | none => .tuple #[.int .u64 0, .bool false]
  | some n => .tuple #[.int .u64 (n : Nat), .bool true]
theorem minus_prefix (s : ByteArray) : Lib.hasPrefix s.data.toList (ByteArray.mk #[45]).data.toList = stA (bts s) (isC 45) 0 := by
  unfold Lib.hasPrefix bts stA
  cases s.data.toList with
  | nil => simp [List.isPrefixOf]
  | cons a r =>
    simp only [List.map_cons, List.length_cons, List.getD_cons_zero, isC]
    rw [decide_eq_true (by omega), Bool.true_and]
    simp only [List.isPrefixOf, Bool.and_true]
    rw [Bool.eq_iff_iff, beq_iff_eq, decide_eq_true_iff, ← UInt8.toNat_inj]
    constructor
    · intro h; rw [← h]; rfl
    · intro h
      have : a.toNat = 45 := by omega
      rw [this]; rfl
theorem minus_trim (s : ByteArray) : (Lib.trimPrefix s.data.toList (ByteArray.mk #[45]).data.toList).map (fun b => (b.toNat : Int)) = digs (bts s) := by
  unfold Lib.trimPrefix digs
  rw [minus_prefix]
  split
  · simp [bts]
  · rfl
theorem trim_size (s p : List UInt8) : (Lib.trimPrefix s p).length ≤ s.length := by
  unfold Lib.trimPrefix
  split <;> simp
theorem parse_digs (s : ByteArray) (h : goodN (bts s) = true) :
    Lib.parseUintB 64 (Lib.trimPrefix s.data.toList (ByteArray.mk #[45]).data.toList) = if decF 0 (digs (bts s)) ≤ maxU then .ok (decF 0 (digs (bts s))) else .range := by
  obtain ⟨h1, h2⟩ := good_digs h
  rw [← minus_trim] at h1 h2 ⊢
  refine parseUintB_dec _ (fun he => h1 (by rw [he]; rfl)) (fun b hb => ?_)
  have := h2 _ (List.mem_map_of_mem hb)
  omega
theorem sized_iff (size : Int) : sizedB size = true ↔ (size = 1 ∨ size = 2 ∨ size = 4 ∨ size = 8) := by unfold sizedB; rw [decide_eq_true_iff]
theorem numV_bad1 {zs : List Int} {size : Int} {sign : Bool} (h : numBad zs 0 = true) : numV zs size sign = none := by
  unfold numV goodN
  rw [if_neg (by rw [h]; rintro ⟨h, _⟩; cases h)]
theorem numV_bad2 {zs : List Int} {size : Int} {sign : Bool} (h : numEnd zs 0 ≠ zs.length) : numV zs size sign = none := by
  unfold numV goodN
  rw [if_neg (by rw [decide_eq_false h, Bool.and_false]; rintro ⟨h, _⟩; cases h)]
theorem numV_bad3 {zs : List Int} {size : Int} {sign : Bool} (h : ¬ (size = 1 ∨ size = 2 ∨ size = 4 ∨ size = 8)) : numV zs size sign = none := by
  unfold numV
  rw [if_neg (fun hh => h ((sized_iff size).1 hh.2.1))]
theorem numV_bad4 {zs : List Int} {size : Int} {sign : Bool} (h : ¬ decF 0 (digs zs) ≤ maxU) : numV zs size sign = none := by
  unfold numV
  rw [if_neg (fun hh => h hh.2.2.1)]
theorem numV_bad5 {zs : List Int} {size : Int} {sign : Bool} (h : fitsB (decF 0 (digs zs)) (stA zs (isC 45) 0) size sign = false) : numV zs size sign = none := by
  unfold numV
  rw [if_neg (fun hh => by have := hh.2.2.2; rw [h] at this; cases this)]
theorem numV_yes {zs : List Int} {size : Int} {sign : Bool} (h1 : numBad zs 0 = false) (h2 : numEnd zs 0 = zs.length) (h3 : size = 1 ∨ size = 2 ∨ size = 4 ∨ size = 8) (h4 : decF 0 (digs zs) ≤ maxU) (h5 : fitsB (decF 0 (digs zs)) (stA zs (isC 45) 0) size sign = true) :
    numV zs size sign = some (if stA zs (isC 45) 0 = true then (18446744073709551616 - decF 0 (digs zs)) % 18446744073709551616 else decF 0 (digs zs)) := by
  unfold numV
  rw [if_pos ⟨by unfold goodN; rw [h1, decide_eq_true h2]; rfl, (sized_iff size).2 h3, h4, h5⟩]
theorem below_bytes {B : Nat} {w W : World} (h : Below B w W) (hB : B ≤ W.heap.size) (e : TypeId) (s : ByteArray) : Below B w (Lib.bytesWorld W e s) := h.trans ((Lib.bytesWorld_below W e s).mono hB)
theorem bytes_new (w : World) (s : ByteArray) : Bytes (Lib.bytesWorld w 5 s) (some ⟨w.heap.size, 0, none⟩) (bts s) := by
  refine ⟨bts_bd s, fun _ => ⟨w.heap.size, 0, rfl, by rw [Lib.bytesWorld_size]; omega, fun i hi => ?_⟩⟩
  rw [bts_length] at hi
  rw [Nat.zero_add, Lib.bytesWorld_cell w _ s i hi]
  simp [bts, List.getD, hi]
theorem lexNumber_bad (s : ByteArray) (size : Int) (sign : Bool) (w : World) (hs : s.size ≤ 281474976710656) (h : numBad (bts s) 0 = true ∨ (numBad (bts s) 0 = false ∧ (numEnd (bts s) 0 ≠ s.size ∨ (numEnd (bts s) 0 = s.size ∧ ¬ (size = 1 ∨ size = 2 ∨ size = 4 ∨ size = 8))))) :
    Calls Tryz.prog 136 #[.string s, .int .i64 size, .bool sign] w fun e w' => e = .returned (.tuple #[.int .u64 0, .bool false]) ∧ Below w.heap.size w w' := by
  have kc := fun W => Lib.run_convert_string_bytes (P := Tryz.prog) W 9 24 5 s Tryz.underlying9 Tryz.underlying24 Tryz.underlying5
  have H := Lib.hid h
  clear h
  go_enter Tryz.func136, Tryz.ntmps136
  go_wp2_with fail
  refine (number_any _ s.size _ 0 _ (bts s) _ rfl (bytes_new w s) (bts_length s) hs (Nat.zero_le _)).mono ?_
  rintro e W1 ⟨rfl, hb1⟩
  have HB1 := Lib.hid ((below_bytes (Below.refl _ _) (Nat.le_refl _) 5 s).trans (hb1.mono (by rw [Lib.bytesWorld_size]; omega)))
  clear hb1
  rcases H.out with h | ⟨h, h2⟩
  · rw [show numVal (bts s) 0 = _ from if_pos h]
    clear h
    go_wp2
    go_ret2
    exact ⟨rfl, HB1.out⟩
  · rw [show numVal (bts s) 0 = _ from if_neg (by rw [h]; decide)]
    generalize numEnd (bts s) 0 = E at h2
    rcases h2 with h2 | ⟨h2, h3⟩
    · have t : ((E : Int) != (s.size : Int)) = true := by simp; omega
      clear h h2
      go_wp2
      go_ret2
      exact ⟨rfl, HB1.out⟩
    · have t : ((E : Int) != (s.size : Int)) = false := by simp; omega
      have H3 := Lib.hid h3
      clear h h2 h3
      go_wp2_with fail
      refine (sized_no size _ H3.out).mono ?_
      rintro e W2 ⟨rfl, rfl⟩
      go_wp2
      go_ret2
      exact ⟨rfl, HB1.out⟩
theorem digs_str (s : ByteArray) (h : goodN (bts s) = true) : ∃ d : ByteArray, (⟨(Lib.trimPrefix s.data.toList (ByteArray.mk #[45]).data.toList).toArray⟩ : ByteArray) = d ∧ d.size ≤ s.size ∧ Lib.parseUintB 64 d.data.toList = if decF 0 (digs (bts s)) ≤ maxU then .ok (decF 0 (digs (bts s))) else .range := by
  refine ⟨_, rfl, ?_, ?_⟩
  · have := trim_size s.data.toList (ByteArray.mk #[45]).data.toList
    have e1 : s.data.toList.length = s.size := by simp
    simp only [ByteArray.size, List.size_toArray]
    simp only [ByteArray.size] at e1
    omega
  · exact parse_digs s h
theorem neg_wrap (V : Nat) (h : (V : Int) ≤ 18446744073709551615) : IntKind.u64.wrap (-(V : Int)) = (((18446744073709551616 - V) % 18446744073709551616 : Nat) : Int) := by
  rw [IntKind.wrap_u64]
  omega
set_option maxHeartbeats 800000 in
theorem lexNumber_good (s : ByteArray) (size : Int) (sign : Bool) (w : World) (hE : ErrV w) (hs : s.size ≤ 281474976710656) (h1 : numBad (bts s) 0 = false) (h2 : numEnd (bts s) 0 = s.size) (h3 : size = 1 ∨ size = 2 ∨ size = 4 ∨ size = 8) :
    Calls Tryz.prog 136 #[.string s, .int .i64 size, .bool sign] w fun e w' => e = .returned (numR (numV (bts s) size sign)) ∧ Below w.heap.size w w' := by
  have kc := fun W => Lib.run_convert_string_bytes (P := Tryz.prog) W 9 24 5 s Tryz.underlying9 Tryz.underlying24 Tryz.underlying5
  obtain ⟨d, hd, hds, hp⟩ := digs_str s (by unfold goodN; rw [h1, decide_eq_true (by rw [h2, bts_length])]; rfl)
  have HY := Lib.hid (fun h4 h5 => numV_yes (sign := sign) h1 (by rw [h2, bts_length]) h3 h4 h5)
  have HB4 := Lib.hid (fun h => numV_bad4 (zs := bts s) (size := size) (sign := sign) h)
  have HB5 := Lib.hid (fun h => numV_bad5 (zs := bts s) (size := size) (sign := sign) h)
  have HC := Lib.hid (Tryz.strings_CutPrefix s (ByteArray.mk #[45]))
  have HM := Lib.hid (minus_prefix s)
  have HNV : Hid (numVal (bts s) 0 = .tuple #[.int .i64 (numEnd (bts s) 0 : Nat), .bool true]) := if_neg (by rw [h1]; decide)
  rw [h2] at HNV
  have H3 := Lib.hid h3
  have HD := Lib.hid hd
  have HP := Lib.hid hp
  have HEV := Lib.hid hE
  generalize numV (bts s) size sign = r at HY HB4 HB5 ⊢
  clear h1 h2 h3 hd hp hE
  go_enter Tryz.func136, Tryz.ntmps136
  go_wp2_with fail
  refine (number_any _ s.size _ 0 _ (bts s) _ rfl (bytes_new w s) (bts_length s) hs (Nat.zero_le _)).mono ?_
  rintro e W1 ⟨rfl, hb1⟩
  have HB1 := Lib.hid ((below_bytes (Below.refl _ _) (Nat.le_refl _) 5 s).trans (hb1.mono (by rw [Lib.bytesWorld_size]; omega)))
  clear hb1
  rw [HNV.out]
  have t : ((s.size : Int) != (s.size : Int)) = false := by simp
  go_wp2_with fail
  refine (sized_yes size _ H3.out).mono ?_
  rintro e W2 ⟨rfl, rfl⟩
  go_wp2_with fail
  refine (HC.out W1).mono ?_
  rintro e W3 ⟨rfl, rfl⟩
  rw [HM.out, HD.out]
  generalize stA (bts s) (isC 45) 0 = b at HY HB5 ⊢
  generalize decF 0 (digs (bts s)) = V at HY HB4 HB5 HP
  by_cases hV : V ≤ maxU
  · have hP := HP.out
    rw [if_pos hV] at hP
    have HP' := Lib.hid hP
    have HV := Lib.hid hV
    have hv1 : (V : Int) ≤ 18446744073709551615 := Int.ofNat_le.2 hV
    clear hV hP
    go_wp2_with fail
    refine (Tryz.strconv_ParseUint_10_at64_ok d (by omega) V HP'.out W3).mono ?_
    rintro e W4 ⟨rfl, hw⟩
    have HB4' : Hid (Below w.heap.size w W4) := by
      rcases hw with rfl | rfl
      · exact HB1.out
      · exact below_bytes HB1.out HB1.out.size _ _
    clear hw
    go_wp2_with fail
    refine (fits_any V b size sign _ (by omega) H3.out).mono ?_
    rintro e W5 ⟨rfl, rfl⟩
    cases hf : fitsB (V : Int) b size sign
    · have HR := Lib.hid (HB5.out hf)
      clear hf
      go_wp2
      go_ret2
      exact ⟨by rw [HR.out]; rfl, HB4'.out⟩
    · have HR := Lib.hid (HY.out HV.out hf)
      clear hf
      cases b
      · rw [if_neg (by decide)] at HR
        go_wp2
        go_ret2
        exact ⟨by rw [HR.out]; rfl, HB4'.out⟩
      · rw [if_pos rfl] at HR
        go_wp2
        go_ret2
        exact ⟨(ret_int_bool (neg_wrap V hv1)).trans (by rw [HR.out]; rfl), HB4'.out⟩
  · have hP := HP.out
    rw [if_neg hV] at hP
    have HP' := Lib.hid hP
    have HR := Lib.hid (HB4.out hV)
    obtain ⟨te, ev, hev⟩ := HEV.out.later HB1.out
    have HX := Lib.hid hev
    clear hV hP hev
    go_wp2_with fail
    refine (Tryz.strconv_ParseUint_10_at64_range d (by omega) HP'.out _ W3 HX.out (.inr ⟨te, ev, rfl⟩)).mono ?_
    rintro e W4 ⟨N, rfl, hN, hN2, hb⟩
    clear hN hN2
    go_wp2
    go_ret2
    exact ⟨by rw [HR.out]; rfl, HB1.out.trans (hb.mono HB1.out.size)⟩
theorem lexNumber_any (s : ByteArray) (size : Int) (sign : Bool) (w : World) (hE : ErrV w) (hs : s.size ≤ 281474976710656) :
    Calls Tryz.prog 136 #[.string s, .int .i64 size, .bool sign] w fun e w' => e = .returned (numR (numV (bts s) size sign)) ∧ Below w.heap.size w w' := by
  cases h1 : numBad (bts s) 0
  · by_cases h2 : numEnd (bts s) 0 = s.size
    · by_cases h3 : size = 1 ∨ size = 2 ∨ size = 4 ∨ size = 8
      · exact lexNumber_good s size sign w hE hs h1 h2 h3
      · rw [numV_bad3 h3]
        exact lexNumber_bad s size sign w hs (.inr ⟨h1, .inr ⟨h2, h3⟩⟩)
    · rw [numV_bad2 (by rw [bts_length]; exact h2)]
      exact lexNumber_bad s size sign w hs (.inr ⟨h1, .inl h2⟩)
  · rw [numV_bad1 h1]
    exact lexNumber_bad s size sign w hs (.inl h1)
end Go.Proofs.YtleclhnlojalbaaGreatDoor
namespace Go.Proofs.YtleclhnlojalbaaGreatDoor
open Go.ChangeShapes Go.WideShapes Go.ChangeAt Go.RowKit Go.Shelf

theorem rnumber_bad (s : ByteArray) (size : Int) (sign : Bool) (w : World) (hs : s.size ≤ 281474976710656) (h : goodN (bts s) = false ∨ (goodN (bts s) = true ∧ ¬ (size = 1 ∨ size = 2 ∨ size = 4 ∨ size = 8))) :
    Calls Tryz.prog 90 #[.string s, .int .i64 size, .bool sign] w fun e w' => e = .returned (.tuple #[.int .u64 0, .bool false]) ∧ w = w' := by
  rcases h with h | ⟨h, h2⟩
  · have H := Lib.hid h
    clear h
    go_enter Tryz.func90, Tryz.ntmps90
    go_wp2_with fail
    refine (rgood_any s _ hs).mono ?_
    rintro e w1 ⟨rfl, rfl⟩
    rw [H.out]
    go_wp2
    go_ret2
    exact ⟨rfl, rfl⟩
  · have H := Lib.hid h
    have H2 := Lib.hid h2
    clear h h2
    go_enter Tryz.func90, Tryz.ntmps90
    go_wp2_with fail
    refine (rgood_any s _ hs).mono ?_
    rintro e w1 ⟨rfl, rfl⟩
    rw [H.out]
    go_wp2_with fail
    refine (rsized_no size _ H2.out).mono ?_
    rintro e w2 ⟨rfl, rfl⟩
    go_wp2
    go_ret2
    exact ⟨rfl, rfl⟩
def RNum (r : Option Nat) (w : World) (e : Ending) (w' : World) : Prop := ∃ x : Int, e = .returned (.tuple #[.int .u64 x, .bool r.isSome]) ∧ (∀ n, r = some n → x = n) ∧ w = w'
theorem rnum_none {w : World} {r : Option Nat} (x : Int) (h : r = none) : RNum r w (.returned (.tuple #[.int .u64 x, .bool false])) w := by
  subst h
  exact ⟨x, rfl, (fun n h => by cases h), rfl⟩
theorem rnum_some {w : World} {r : Option Nat} {x : Int} {n : Nat} (h : r = some n) (hx : x = n) : RNum r w (.returned (.tuple #[.int .u64 x, .bool true])) w := by
  subst h
  exact ⟨x, rfl, (fun m h => by cases h; exact hx), rfl⟩
theorem numV_of {zs : List Int} {size : Int} {sign : Bool} (h1 : goodN zs = true) (h3 : size = 1 ∨ size = 2 ∨ size = 4 ∨ size = 8) (h4 : decF 0 (digs zs) ≤ maxU) :
    numV zs size sign = if fitsB (decF 0 (digs zs)) (stA zs (isC 45) 0) size sign = true then some (if stA zs (isC 45) 0 = true then (18446744073709551616 - decF 0 (digs zs)) % 18446744073709551616 else decF 0 (digs zs)) else none := by
  unfold numV
  cases h5 : fitsB (decF 0 (digs zs)) (stA zs (isC 45) 0) size sign
  · rw [if_neg (fun hh => by have := hh.2.2.2; cases this), if_neg (by decide)]
  · rw [if_pos ⟨h1, (sized_iff size).2 h3, h4, rfl⟩, if_pos rfl]
theorem numV_no {zs : List Int} {size : Int} {sign : Bool} (h : goodN zs = false) : numV zs size sign = none := by
  unfold numV
  rw [if_neg (fun hh => by have := hh.1; rw [h] at this; cases this)]
theorem decF_take (ds : List Int) (k : Nat) (h : k < ds.length) : decF 0 (ds.take (k + 1)) = decF 0 (ds.take k) * 10 + ((ds.getD k 0).toNat - 48) := by
  rw [List.take_succ_eq_append_getElem h, decF_append, decF_cons, decF_nil]
  unfold dstep
  simp [List.getD, h]
theorem decF_take_le (ds : List Int) (k : Nat) : decF 0 (ds.take k) ≤ decF 0 ds := by
  conv => rhs; rw [← List.take_append_drop k ds, decF_append]
  exact decF_ge _ _
theorem fits_uns (v : Int) (size m : Int) (h : span size = m) : decide (v < m) = fitsB v false size false := by
  unfold fitsB
  rw [h, if_neg (by decide), Bool.not_false, Bool.true_and]
set_option maxRecDepth 100000 in
set_option maxHeartbeats 1600000 in
theorem rnumber_minus (s : ByteArray) (size : Int) (sign : Bool) (w : World) (hs : s.size ≤ 281474976710656) (h : goodN (bts s) = true) (h2 : size = 1 ∨ size = 2 ∨ size = 4 ∨ size = 8) (h3 : stA (bts s) (isC 45) 0 = true) :
    Calls Tryz.prog 90 #[.string s, .int .i64 size, .bool sign] w (RNum (numV (bts s) size sign) w) := by
  have h1 : 0 < s.size := by
    have := ((goodN_iff _).1 h).1
    rw [digs_length, bts_length] at this
    omega
  have H := Lib.hid h
  have H2 := Lib.hid h2
  have HV := Lib.hid (fun h4 => numV_of (sign := sign) h h2 h4)
  have HB4 := Lib.hid (fun h => numV_bad4 (zs := bts s) (size := size) (sign := sign) h)
  have HDG := Lib.hid (good_digs h).2
  have HDX := Lib.hid (show digs (bts s) = bts (s.extract 1 s.size) from by unfold digs; rw [if_pos h3, bts_extract])
  have t0 : ((s[0].toNat : Int) == 45) = true := by rw [← bts_get h1]; exact stA_p h3
  rw [h3] at HV
  generalize numV (bts s) size sign = r at HV HB4 ⊢
  clear h h2 h3
  go_enter Tryz.func90, Tryz.ntmps90
  go_wp2_with fail
  refine (rgood_any s _ hs).mono ?_
  rintro e w1 ⟨rfl, rfl⟩
  rw [H.out]
  go_wp2_with fail
  refine (rsized_yes size _ H2.out).mono ?_
  rintro e w2 ⟨rfl, rfl⟩
  go_wp2
  obtain ⟨d, hd⟩ : ∃ d, d = s.extract 1 s.size := ⟨_, rfl⟩
  rw [← hd]
  have HD := Lib.hid (show digs (bts s) = bts d from by rw [hd]; exact HDX.out)
  have hdl : d.size ≤ 281474976710656 := by rw [hd, extract_size]; omega
  clear hd HDX
  go_loop [10, 11] (fun n i => ∃ k : Nat, k ≤ d.size ∧ i = .int .i64 k ∧ n = .int .u64 (decF 0 ((bts d).take k) : Nat) ∧ ((decF 0 ((bts d).take k) : Nat) : Int) ≤ 18446744073709551615) (fun _ i => d.size - (intOf i).toNat)
  case atStart => exact ⟨0, Nat.zero_le _, rfl, rfl, by rw [List.take_zero, decF_nil]; decide⟩
  case round =>
    obtain ⟨k, hk, rfl, rfl, hle⟩ := hrel
    by_cases hlt : k < d.size
    · have HT := Lib.hid (decF_take (bts d) k (by rw [bts_length]; exact hlt))
      have hTle := decF_take_le (bts d) (k + 1)
      have hc := HDG.out ((bts d).getD k 0) (by rw [HD.out]; rw [List.getD, List.getElem?_eq_getElem (by rw [bts_length]; exact hlt)]; exact List.getElem_mem _)
      rw [bts_get hlt] at HT hc
      have HT2 := HT.out
      rw [show ((d[k].toNat : Int)).toNat = d[k].toNat from Int.toNat_natCast _] at HT2
      have HT' := Lib.hid HT2
      have HBB := Lib.hid (fun h => HB4.out (by rw [HD.out]; exact h))
      generalize decF 0 ((bts d).take k) = n at hle HT' ⊢
      have HN1 : Hid (n * 10 + (d[k].toNat - 48) ≤ decF 0 (bts d)) := by
        have e := HT'.out
        rw [e] at hTle
        exact hTle
      have HMX := Lib.hid (show maxU = 18446744073709551615 from rfl)
      clear HT2 HT hTle
      by_cases c1 : (1844674407370955161 : Int) < n
      · have t1 : decide ((1844674407370955161 : Int) < n) = true := by simpa using c1
        have HR := Lib.hid (HBB.out (by have h1 := HN1.out; have h2 := HMX.out; omega))
        go_wp2
        go_ret2
        exact rnum_none _ HR.out
      · have t1 : decide ((1844674407370955161 : Int) < n) = false := by simpa using c1
        by_cases c2 : (18446744073709551615 : Int) - ((d[k].toNat : Int) - 48) < n * 10
        · have HR := Lib.hid (HBB.out (by have h1 := HN1.out; have h2 := HMX.out; omega))
          go_wp2
          go_ret2
          exact rnum_none _ HR.out
        · go_wp2
          go_round
          case rel => exact ⟨k + 1, by omega, by go_num, by rw [HT'.out]; exact congrArg (Value.int .u64) (by omega), by rw [HT'.out]; omega⟩
          case measure => simp [intOf]; omega
    · have hke : k = d.size := by omega
      have HV' := Lib.hid HV.out
      rw [HD.out, show bts d = (bts d).take k from (List.take_of_length_le (by rw [bts_length]; omega)).symm] at HV'
      have HMX := Lib.hid (show maxU = 18446744073709551615 from rfl)
      generalize decF 0 ((bts d).take k) = n at hle HV' ⊢
      have HW := Lib.hid (HV'.out (by have h2 := HMX.out; omega))
      clear hke
      obtain rfl | rfl | rfl | rfl := H2.out
      · cases sign
        · have HR := Lib.hid (HW.out.trans (if_neg (by rw [show fitsB (n : Int) true 1 false = false from (fits_below _ _).symm]; decide)))
          go_wp2
          go_ret2
          exact rnum_none _ HR.out
        · by_cases hl : (128 : Int) < n
          · have HR := Lib.hid (HW.out.trans (if_neg (by rw [← fits_sb (n : Int) 1 128 half_1]; rw [decide_eq_false (by omega)]; simp; omega)))
            go_wp2
            go_ret2
            exact rnum_none _ HR.out
          · have HR := Lib.hid (HW.out.trans (if_pos (by rw [← fits_sb (n : Int) 1 128 half_1]; simp; omega)))
            go_wp2
            go_ret2
            exact rnum_some HR.out (xor_max n hle)
      · cases sign
        · have HR := Lib.hid (HW.out.trans (if_neg (by rw [show fitsB (n : Int) true 2 false = false from (fits_below _ _).symm]; decide)))
          go_wp2
          go_ret2
          exact rnum_none _ HR.out
        · by_cases hl : (32768 : Int) < n
          · have HR := Lib.hid (HW.out.trans (if_neg (by rw [← fits_sb (n : Int) 2 32768 half_2]; rw [decide_eq_false (by omega)]; simp; omega)))
            go_wp2
            go_ret2
            exact rnum_none _ HR.out
          · have HR := Lib.hid (HW.out.trans (if_pos (by rw [← fits_sb (n : Int) 2 32768 half_2]; simp; omega)))
            go_wp2
            go_ret2
            exact rnum_some HR.out (xor_max n hle)
      · cases sign
        · have HR := Lib.hid (HW.out.trans (if_neg (by rw [show fitsB (n : Int) true 4 false = false from (fits_below _ _).symm]; decide)))
          go_wp2
          go_ret2
          exact rnum_none _ HR.out
        · by_cases hl : (2147483648 : Int) < n
          · have HR := Lib.hid (HW.out.trans (if_neg (by rw [← fits_sb (n : Int) 4 2147483648 half_4]; rw [decide_eq_false (by omega)]; simp; omega)))
            go_wp2
            go_ret2
            exact rnum_none _ HR.out
          · have HR := Lib.hid (HW.out.trans (if_pos (by rw [← fits_sb (n : Int) 4 2147483648 half_4]; simp; omega)))
            go_wp2
            go_ret2
            exact rnum_some HR.out (xor_max n hle)
      · cases sign
        · have HR := Lib.hid (HW.out.trans (if_neg (by rw [show fitsB (n : Int) true 8 false = false from (fits_below _ _).symm]; decide)))
          go_wp2
          go_ret2
          exact rnum_none _ HR.out
        · by_cases hl : (9223372036854775808 : Int) < n
          · have HR := Lib.hid (HW.out.trans (if_neg (by rw [← fits_sb (n : Int) 8 9223372036854775808 half_8]; rw [decide_eq_false (by omega)]; simp; omega)))
            go_wp2
            go_ret2
            exact rnum_none _ HR.out
          · have HR := Lib.hid (HW.out.trans (if_pos (by rw [← fits_sb (n : Int) 8 9223372036854775808 half_8]; simp; omega)))
            go_wp2
            go_ret2
            exact rnum_some HR.out (xor_max n hle)
set_option maxRecDepth 100000 in
set_option maxHeartbeats 1600000 in
theorem rnumber_plain (s : ByteArray) (size : Int) (sign : Bool) (w : World) (hs : s.size ≤ 281474976710656) (h : goodN (bts s) = true) (h2 : size = 1 ∨ size = 2 ∨ size = 4 ∨ size = 8) (h3 : stA (bts s) (isC 45) 0 = false) :
    Calls Tryz.prog 90 #[.string s, .int .i64 size, .bool sign] w (RNum (numV (bts s) size sign) w) := by
  have h1 : 0 < s.size := by
    have := ((goodN_iff _).1 h).1
    rw [digs_length, bts_length] at this
    omega
  have H := Lib.hid h
  have H2 := Lib.hid h2
  have HV := Lib.hid (fun h4 => numV_of (sign := sign) h h2 h4)
  have HB4 := Lib.hid (fun h => numV_bad4 (zs := bts s) (size := size) (sign := sign) h)
  have HDG := Lib.hid (good_digs h).2
  have HDX := Lib.hid (show digs (bts s) = bts s from by unfold digs; rw [if_neg (by rw [h3]; decide)])
  have t0 : ((s[0].toNat : Int) == 45) = false := by
    rw [stA_of (by rw [bts_length]; exact h1)] at h3
    rw [← bts_get h1]
    exact h3
  rw [h3] at HV
  generalize numV (bts s) size sign = r at HV HB4 ⊢
  clear h h2 h3
  go_enter Tryz.func90, Tryz.ntmps90
  go_wp2_with fail
  refine (rgood_any s _ hs).mono ?_
  rintro e w1 ⟨rfl, rfl⟩
  rw [H.out]
  go_wp2_with fail
  refine (rsized_yes size _ H2.out).mono ?_
  rintro e w2 ⟨rfl, rfl⟩
  go_wp2
  obtain ⟨d, hd⟩ : ∃ d, d = s := ⟨_, rfl⟩
  have HD := Lib.hid (show digs (bts s) = bts d from by rw [hd]; exact HDX.out)
  subst hd
  have hdl := hs
  clear HDX
  go_loop [10, 11] (fun n i => ∃ k : Nat, k ≤ d.size ∧ i = .int .i64 k ∧ n = .int .u64 (decF 0 ((bts d).take k) : Nat) ∧ ((decF 0 ((bts d).take k) : Nat) : Int) ≤ 18446744073709551615) (fun _ i => d.size - (intOf i).toNat)
  case atStart => exact ⟨0, Nat.zero_le _, rfl, rfl, by rw [List.take_zero, decF_nil]; decide⟩
  case round =>
    obtain ⟨k, hk, rfl, rfl, hle⟩ := hrel
    by_cases hlt : k < d.size
    · have HT := Lib.hid (decF_take (bts d) k (by rw [bts_length]; exact hlt))
      have hTle := decF_take_le (bts d) (k + 1)
      have hc := HDG.out ((bts d).getD k 0) (by rw [HD.out]; rw [List.getD, List.getElem?_eq_getElem (by rw [bts_length]; exact hlt)]; exact List.getElem_mem _)
      rw [bts_get hlt] at HT hc
      have HT2 := HT.out
      rw [show ((d[k].toNat : Int)).toNat = d[k].toNat from Int.toNat_natCast _] at HT2
      have HT' := Lib.hid HT2
      have HBB := Lib.hid (fun h => HB4.out (by rw [HD.out]; exact h))
      generalize decF 0 ((bts d).take k) = n at hle HT' ⊢
      have HN1 : Hid (n * 10 + (d[k].toNat - 48) ≤ decF 0 (bts d)) := by
        have e := HT'.out
        rw [e] at hTle
        exact hTle
      have HMX := Lib.hid (show maxU = 18446744073709551615 from rfl)
      clear HT2 HT hTle
      by_cases c1 : (1844674407370955161 : Int) < n
      · have t1 : decide ((1844674407370955161 : Int) < n) = true := by simpa using c1
        have HR := Lib.hid (HBB.out (by have h1 := HN1.out; have h2 := HMX.out; omega))
        go_wp2
        go_ret2
        exact rnum_none _ HR.out
      · have t1 : decide ((1844674407370955161 : Int) < n) = false := by simpa using c1
        by_cases c2 : (18446744073709551615 : Int) - ((d[k].toNat : Int) - 48) < n * 10
        · have HR := Lib.hid (HBB.out (by have h1 := HN1.out; have h2 := HMX.out; omega))
          go_wp2
          go_ret2
          exact rnum_none _ HR.out
        · go_wp2
          go_round
          case rel => exact ⟨k + 1, by omega, by go_num, by rw [HT'.out]; exact congrArg (Value.int .u64) (by omega), by rw [HT'.out]; omega⟩
          case measure => simp [intOf]; omega
    · have hke : k = d.size := by omega
      have HV' := Lib.hid HV.out
      rw [HD.out, show bts d = (bts d).take k from (List.take_of_length_le (by rw [bts_length]; omega)).symm] at HV'
      have HMX := Lib.hid (show maxU = 18446744073709551615 from rfl)
      generalize decF 0 ((bts d).take k) = n at hle HV' ⊢
      have HW := Lib.hid (HV'.out (by have h2 := HMX.out; omega))
      clear hke
      obtain rfl | rfl | rfl | rfl := H2.out
      · cases sign
        · by_cases hl : (n : Int) < 256
          · have HR := Lib.hid (HW.out.trans (if_pos (by rw [← fits_uns (n : Int) 1 256 span_1]; exact decide_eq_true hl)))
            have tl : decide ((n : Int) ≤ 255) = true := by simp; omega
            go_wp2
            go_ret2
            exact rnum_some HR.out rfl
          · have HR := Lib.hid (HW.out.trans (if_neg (by rw [← fits_uns (n : Int) 1 256 span_1, decide_eq_false hl]; decide)))
            have tl : decide ((n : Int) ≤ 255) = false := by simp; omega
            go_wp2
            go_ret2
            exact rnum_none _ HR.out
        · by_cases hl : (n : Int) < 128
          · have HR := Lib.hid (HW.out.trans (if_pos (by rw [← fits_sg (n : Int) 1 128 half_1]; exact decide_eq_true hl)))
            have tl : decide ((n : Int) ≤ 127) = true := by simp; omega
            go_wp2
            go_ret2
            exact rnum_some HR.out rfl
          · have HR := Lib.hid (HW.out.trans (if_neg (by rw [← fits_sg (n : Int) 1 128 half_1, decide_eq_false hl]; decide)))
            have tl : decide ((n : Int) ≤ 127) = false := by simp; omega
            go_wp2
            go_ret2
            exact rnum_none _ HR.out
      · cases sign
        · by_cases hl : (n : Int) < 65536
          · have HR := Lib.hid (HW.out.trans (if_pos (by rw [← fits_uns (n : Int) 2 65536 span_2]; exact decide_eq_true hl)))
            have tl : decide ((n : Int) ≤ 65535) = true := by simp; omega
            go_wp2
            go_ret2
            exact rnum_some HR.out rfl
          · have HR := Lib.hid (HW.out.trans (if_neg (by rw [← fits_uns (n : Int) 2 65536 span_2, decide_eq_false hl]; decide)))
            have tl : decide ((n : Int) ≤ 65535) = false := by simp; omega
            go_wp2
            go_ret2
            exact rnum_none _ HR.out
        · by_cases hl : (n : Int) < 32768
          · have HR := Lib.hid (HW.out.trans (if_pos (by rw [← fits_sg (n : Int) 2 32768 half_2]; exact decide_eq_true hl)))
            have tl : decide ((n : Int) ≤ 32767) = true := by simp; omega
            go_wp2
            go_ret2
            exact rnum_some HR.out rfl
          · have HR := Lib.hid (HW.out.trans (if_neg (by rw [← fits_sg (n : Int) 2 32768 half_2, decide_eq_false hl]; decide)))
            have tl : decide ((n : Int) ≤ 32767) = false := by simp; omega
            go_wp2
            go_ret2
            exact rnum_none _ HR.out
      · cases sign
        · by_cases hl : (n : Int) < 4294967296
          · have HR := Lib.hid (HW.out.trans (if_pos (by rw [← fits_uns (n : Int) 4 4294967296 span_4]; exact decide_eq_true hl)))
            have tl : decide ((n : Int) ≤ 4294967295) = true := by simp; omega
            go_wp2
            go_ret2
            exact rnum_some HR.out rfl
          · have HR := Lib.hid (HW.out.trans (if_neg (by rw [← fits_uns (n : Int) 4 4294967296 span_4, decide_eq_false hl]; decide)))
            have tl : decide ((n : Int) ≤ 4294967295) = false := by simp; omega
            go_wp2
            go_ret2
            exact rnum_none _ HR.out
        · by_cases hl : (n : Int) < 2147483648
          · have HR := Lib.hid (HW.out.trans (if_pos (by rw [← fits_sg (n : Int) 4 2147483648 half_4]; exact decide_eq_true hl)))
            have tl : decide ((n : Int) ≤ 2147483647) = true := by simp; omega
            go_wp2
            go_ret2
            exact rnum_some HR.out rfl
          · have HR := Lib.hid (HW.out.trans (if_neg (by rw [← fits_sg (n : Int) 4 2147483648 half_4, decide_eq_false hl]; decide)))
            have tl : decide ((n : Int) ≤ 2147483647) = false := by simp; omega
            go_wp2
            go_ret2
            exact rnum_none _ HR.out
      · cases sign
        · have hl : (n : Int) < 18446744073709551616 := by omega
          have HR := Lib.hid (HW.out.trans (if_pos (by rw [← fits_uns (n : Int) 8 18446744073709551616 span_8]; exact decide_eq_true hl)))
          have tl : decide ((n : Int) ≤ 18446744073709551615) = true := by simp; omega
          go_wp2
          go_ret2
          exact rnum_some HR.out rfl
        · by_cases hl : (n : Int) < 9223372036854775808
          · have HR := Lib.hid (HW.out.trans (if_pos (by rw [← fits_sg (n : Int) 8 9223372036854775808 half_8]; exact decide_eq_true hl)))
            have tl : decide ((n : Int) ≤ 9223372036854775807) = true := by simp; omega
            go_wp2
            go_ret2
            exact rnum_some HR.out rfl
          · have HR := Lib.hid (HW.out.trans (if_neg (by rw [← fits_sg (n : Int) 8 9223372036854775808 half_8, decide_eq_false hl]; decide)))
            have tl : decide ((n : Int) ≤ 9223372036854775807) = false := by simp; omega
            go_wp2
            go_ret2
            exact rnum_none _ HR.out
theorem rnumber_any (s : ByteArray) (size : Int) (sign : Bool) (w : World) (hs : s.size ≤ 281474976710656) :
    Calls Tryz.prog 90 #[.string s, .int .i64 size, .bool sign] w (RNum (numV (bts s) size sign) w) := by
  have h0 : ∀ e w', (e = .returned (.tuple #[.int .u64 0, .bool false]) ∧ w = w') → numV (bts s) size sign = none → RNum (numV (bts s) size sign) w e w' := by
    rintro e w' ⟨rfl, rfl⟩ h
    exact rnum_none 0 h
  cases hg : goodN (bts s)
  · exact (rnumber_bad s size sign w hs (.inl hg)).mono fun e w' h => h0 e w' h (numV_no hg)
  · by_cases h2 : size = 1 ∨ size = 2 ∨ size = 4 ∨ size = 8
    · cases h3 : stA (bts s) (isC 45) 0
      · exact rnumber_plain s size sign w hs hg h2 h3
      · exact rnumber_minus s size sign w hs hg h2 h3
    · exact (rnumber_bad s size sign w hs (.inr ⟨hg, h2⟩)).mono fun e w' h => h0 e w' h (numV_bad3 h2)
end Go.Proofs.YtleclhnlojalbaaGreatDoor
namespace Go.Proofs.YtleclhnlojalbaaGreatDoor
open Go.ChangeShapes Go.WideShapes Go.ChangeAt Go.RowKit Go.Shelf

theorem full_length (t : Tok) : t.text.length + (if t.kind = 3 then 2 else 0) = (full t).length := by
  unfold full
  split <;> simp
theorem text_bd {ok : List Int → Bool} {sg : Int → Bool} {s : ByteArray} {i e : Nat} {t : Tok} (_ : Fine ok sg t) (h : sub (bts s) i e = full t) : ∀ z ∈ t.text, 0 ≤ z ∧ z ≤ 255 := by
  intro z hz
  have h1 : z ∈ full t := by
    unfold full
    split
    · exact List.mem_cons_of_mem _ (List.mem_append_left _ hz)
    · exact hz
  rw [← h] at h1
  have h2 : z ∈ bts s := List.mem_of_mem_drop (List.mem_of_mem_take h1)
  obtain ⟨j, hj, rfl⟩ := List.mem_iff_getElem.1 h2
  have := bts_bd s j
  rw [List.getD, List.getElem?_eq_getElem hj] at this
  exact this
theorem bts_inj {a b : ByteArray} (h : bts a = bts b) : a = b := by
  have h1 := bts_toList a b.data.toList
  have h2 : a.toList = b.data.toList := by
    have : (a.toList == b.data.toList) = true := by rw [h1]; exact decide_eq_true h
    exact beq_iff_eq.1 this
  rw [ByteArray.toList_eq] at h2
  exact bytes_inj h2
theorem bts_part (s : ByteArray) (i j : Nat) : bts (s.extract i j) = sub (bts s) i j := by
  unfold bts sub
  rw [Lib.extract_data]
  simp
theorem chain_all {s : ByteArray} {sg : Int → Bool} : ∀ (l : List Tok) (i : Nat), i ≤ (bts s).length → Left okU sg (bts s) i l → ∀ t ∈ l, Fine okU sg t ∧ (full t).length ≤ s.size ∧ ∀ z ∈ t.text, 0 ≤ z ∧ z ≤ 255
  | [], _, _, _, t, h => by cases h
  | a :: r, i, hi, hl, t, h => by
    obtain ⟨f1, _, f3, f4, _, f6⟩ := left_step hi hl
    rcases List.mem_cons.1 h with rfl | h
    · refine ⟨f1, ?_, text_bd f1 f4⟩
      rw [bts_length] at f3
      omega
    · exact chain_all r _ f3 f6 t h
end Go.Proofs.YtleclhnlojalbaaGreatDoor
