/-
  The document's own test for a number's text. Conditions: those that each theorem names.
-/
import Derived.Test.YtneadcbadnicfaaDoorRefLex
import Derived.Test.YtneadcbadnicfaaDoorNumPlain
import Derived.Deep.Cut
import Derived.Lib.Strings
namespace Go.Proofs.YtneadcbadnicfaaDoor
open Go.ChangeShapes Go.WideShapes Go.ChangeAt Go.RowKit Go.Shelf

set_option maxRecDepth 100000 in
theorem rgood_minus (s : ByteArray) (w : World) (hs : s.size ≤ 281474976710656) (h : stA (bts s) (isC 45) 0 = true) :
    Calls Tryd.prog 46 #[.string s] w fun e w' => e = .returned (.bool (goodN (bts s))) ∧ w = w' := by
  have h1 : 1 ≤ s.size := by have := stA_lt h; rw [bts_length] at this; omega
  have H := Lib.hid (of_decide_eq_true (show decide ((bts s).getD 0 0 = 45) = true from stA_p h))
  have HDX := Lib.hid (show digs (bts s) = bts (s.extract 1 s.size) from by unfold digs; rw [if_pos h, bts_extract])
  obtain ⟨r, hr⟩ : ∃ r, goodN (bts s) = r := ⟨_, rfl⟩
  have HR := Lib.hid hr
  rw [hr]
  clear h hr
  go_enter Tryd.func46, Tryd.ntmps46
  go_wp2_with fail
  refine (at_any s _ 0 _ rfl).mono ?_
  rintro e w1 ⟨rfl, rfl⟩
  rw [H.out]
  go_upto_region 4 with (fail)
  obtain ⟨d, hd⟩ : ∃ d, d = s.extract 1 s.size := ⟨_, rfl⟩
  rw [← hd]
  have HD : Hid (digs (bts s) = bts d) := by rw [hd]; exact HDX.out
  have hdl : d.size ≤ 281474976710656 := by rw [hd, extract_size]; omega
  have HMS := Lib.hid (show s.size = d.size + 1 from by rw [hd, extract_size]; omega)
  clear hd HDX
  by_cases c1 : d.size < 1
  · have t1 : decide ((d.size : Int) < 1) = true := by simp; omega
    have HF := Lib.hid (HR.out.symm.trans (goodN_no (bts s) (by rw [HD.out, bts_length]; exact .inl c1)))
    go_wp2
    go_ret
    exact ⟨ret_bool HF.out.symm, rfl⟩
  have t1 : decide ((d.size : Int) < 1) = false := by simp; omega
  have p1 : 0 < d.size := by omega
  by_cases c2 : 20 < d.size
  · have t2 : decide (20 < (d.size : Int)) = true := by simp; omega
    have HF := Lib.hid (HR.out.symm.trans (goodN_no (bts s) (by rw [HD.out, bts_length]; exact .inr (.inl c2))))
    go_wp2
    go_ret
    exact ⟨ret_bool HF.out.symm, rfl⟩
  have t2 : decide (20 < (d.size : Int)) = false := by simp; omega
  have HG0 := Lib.hid (bts_get p1)
  have t6 : (s.toList == [45, 48]) = decide (bts s = [45, 48]) := bts_toList s _
  have H6 := Lib.hid t6
  clear t6
  by_cases c6 : bts s = [45, 48]
  · have HF := Lib.hid (HR.out.symm.trans (goodN_no (bts s) (.inr (.inr (.inr (.inl c6))))))
    have t6 : (s.toList == [45, 48]) = true := by rw [H6.out, decide_eq_true c6]
    have t3 : decide (1 < (d.size : Int)) = false := by
      have h1 := congrArg List.length c6
      have h2 := HMS.out
      rw [bts_length] at h1
      simp at h1 ⊢
      omega
    clear c6
    go_wp2
    go_ret
    exact ⟨ret_bool HF.out.symm, rfl⟩
  have t6 : (s.toList == [45, 48]) = false := by rw [H6.out, decide_eq_false c6]
  have HC6 := Lib.hid c6
  clear c6
  by_cases c3 : 1 < d.size ∧ (bts d).getD 0 0 = 48
  · have HF := Lib.hid (HR.out.symm.trans (goodN_no (bts s) (by rw [HD.out, bts_length]; exact .inr (.inr (.inl c3)))))
    have t3 : decide (1 < (d.size : Int)) = true := by simp; omega
    have c4 := c3.2
    rw [HG0.out] at c4
    have t4 : ((d[0].toNat : Int) == 48) = true := by simp only [beq_iff_eq]; exact c4
    clear c3 c4
    go_wp2
    go_ret
    exact ⟨ret_bool HF.out.symm, rfl⟩
  have HC3 := Lib.hid c3
  have key : ∀ b3 b4 : Bool, decide (1 < (d.size : Int)) = b3 → ((d[0].toNat : Int) == 48) = b4 → (b3 && b4) = false := by
    intro b3 b4 h3 h4
    rw [← h3, ← h4]
    cases hb : decide (1 < (d.size : Int))
    · rfl
    · cases hb4 : ((d[0].toNat : Int) == 48)
      · rfl
      · exfalso
        refine HC3.out ⟨?_, ?_⟩
        · have := of_decide_eq_true hb
          omega
        · rw [HG0.out]
          exact beq_iff_eq.1 hb4
  clear c3
  obtain ⟨b3, t3⟩ : ∃ b, decide (1 < (d.size : Int)) = b := ⟨_, rfl⟩
  obtain ⟨b4, t4⟩ : ∃ b, ((d[0].toNat : Int) == 48) = b := ⟨_, rfl⟩
  have KB := Lib.hid (key b3 b4 t3 t4)
  clear key
  cases b3
  all_goals
    try (rw [Bool.true_and] at KB; have kb := KB.out; subst kb)
    go_wp2
    go_loop [4] (fun i => ∃ k : Nat, k ≤ d.size ∧ i = .int .i64 k ∧ ∀ j, j < k → isDig ((bts d).getD j 0) = true) (fun i => d.size - (intOf i).toNat)
    case atStart => exact ⟨0, Nat.zero_le _, rfl, fun j hj => absurd hj (Nat.not_lt_zero j)⟩
    case round =>
      obtain ⟨k, hk, rfl, hall⟩ := hrel
      have HA := Lib.hid hall
      clear hall
      by_cases hlt : k < d.size
      · have HGK := Lib.hid (bts_get hlt)
        cases hq : isDig ((d[k].toNat : Int))
        · have HQ := Lib.hid hq
          have HF := Lib.hid (HR.out.symm.trans (goodN_no (bts s) (by rw [HD.out, bts_length]; exact .inr (.inr (.inr (.inr ⟨k, hlt, by rw [HGK.out]; exact HQ.out⟩))))))
          clear hq
          go_wp2_with fail
          refine (rdigit_any _ _).mono ?_
          rintro e w2 ⟨rfl, rfl⟩
          rw [HQ.out]
          go_wp2
          go_ret
          exact ⟨ret_bool HF.out.symm, rfl⟩
        · have HQ := Lib.hid hq
          clear hq
          go_wp2_with fail
          refine (rdigit_any _ _).mono ?_
          rintro e w2 ⟨rfl, rfl⟩
          rw [HQ.out]
          go_wp2
          go_round
          case rel => exact ⟨k + 1, by omega, by go_num, fun j hj => by
            rcases Nat.lt_or_ge j k with h | h
            · exact HA.out j h
            · obtain rfl : j = k := by omega
              rw [HGK.out]
              exact HQ.out⟩
          case measure => simp [intOf]; omega
      · have hke : k = d.size := by omega
        have HF := Lib.hid (HR.out.symm.trans (goodN_yes (bts s) (by rw [HD.out, bts_length]; omega) (by rw [HD.out, bts_length]; omega) (by rw [HD.out, bts_length]; exact HC3.out) HC6.out (by rw [HD.out, bts_length]; exact fun j hj => HA.out j (by omega))))
        clear hke
        go_wp2
        go_ret
        exact ⟨ret_bool HF.out.symm, rfl⟩
set_option maxRecDepth 100000 in
theorem rgood_plain (s : ByteArray) (w : World) (hs : s.size ≤ 281474976710656) (h : stA (bts s) (isC 45) 0 = false) :
    Calls Tryd.prog 46 #[.string s] w fun e w' => e = .returned (.bool (goodN (bts s))) ∧ w = w' := by
  have t0 : ((bts s).getD 0 0 == 45) = false := by
    by_cases hi : 0 < s.size
    · rw [stA_of (by rw [bts_length]; exact hi)] at h
      exact h
    · rw [bts_end (by omega)]
      rfl
  have HDX := Lib.hid (show digs (bts s) = bts s from by unfold digs; rw [if_neg (by rw [h]; decide)])
  obtain ⟨r, hr⟩ : ∃ r, goodN (bts s) = r := ⟨_, rfl⟩
  have HR := Lib.hid hr
  rw [hr]
  clear h hr
  go_enter Tryd.func46, Tryd.ntmps46
  go_wp2_with fail
  refine (at_any s _ 0 _ rfl).mono ?_
  rintro e w1 ⟨rfl, rfl⟩
  generalize (bts s).getD 0 0 = z0 at t0 ⊢
  go_upto_region 4 with (fail)
  obtain ⟨d, hd⟩ : ∃ d, d = s := ⟨_, rfl⟩
  have HD : Hid (digs (bts s) = bts d) := by rw [hd]; exact HDX.out
  subst hd
  have hdl := hs
  have HMS : Hid (d.size = d.size) := rfl
  clear HDX
  by_cases c1 : d.size < 1
  · have t1 : decide ((d.size : Int) < 1) = true := by simp; omega
    have HF := Lib.hid (HR.out.symm.trans (goodN_no (bts d) (by rw [HD.out, bts_length]; exact .inl c1)))
    go_wp2
    go_ret
    exact ⟨ret_bool HF.out.symm, rfl⟩
  have t1 : decide ((d.size : Int) < 1) = false := by simp; omega
  have p1 : 0 < d.size := by omega
  by_cases c2 : 20 < d.size
  · have t2 : decide (20 < (d.size : Int)) = true := by simp; omega
    have HF := Lib.hid (HR.out.symm.trans (goodN_no (bts d) (by rw [HD.out, bts_length]; exact .inr (.inl c2))))
    go_wp2
    go_ret
    exact ⟨ret_bool HF.out.symm, rfl⟩
  have t2 : decide (20 < (d.size : Int)) = false := by simp; omega
  have HG0 := Lib.hid (bts_get p1)
  have t6 : (d.toList == [45, 48]) = decide (bts d = [45, 48]) := bts_toList d _
  have H6 := Lib.hid t6
  clear t6
  by_cases c6 : bts d = [45, 48]
  · have HF := Lib.hid (HR.out.symm.trans (goodN_no (bts d) (.inr (.inr (.inr (.inl c6))))))
    have t6 : (d.toList == [45, 48]) = true := by rw [H6.out, decide_eq_true c6]
    exfalso
    have h1 := congrArg (fun l => digs l) c6
    have h2 := congrArg List.length (HD.out.symm.trans h1)
    have h3 := congrArg List.length c6
    rw [h3] at h2
    exact absurd h2 (by decide)
  have t6 : (d.toList == [45, 48]) = false := by rw [H6.out, decide_eq_false c6]
  have HC6 := Lib.hid c6
  clear c6
  by_cases c3 : 1 < d.size ∧ (bts d).getD 0 0 = 48
  · have HF := Lib.hid (HR.out.symm.trans (goodN_no (bts d) (by rw [HD.out, bts_length]; exact .inr (.inr (.inl c3)))))
    have t3 : decide (1 < (d.size : Int)) = true := by simp; omega
    have c4 := c3.2
    rw [HG0.out] at c4
    have t4 : ((d[0].toNat : Int) == 48) = true := by simp only [beq_iff_eq]; exact c4
    clear c3 c4
    go_wp2
    go_ret
    exact ⟨ret_bool HF.out.symm, rfl⟩
  have HC3 := Lib.hid c3
  have key : ∀ b3 b4 : Bool, decide (1 < (d.size : Int)) = b3 → ((d[0].toNat : Int) == 48) = b4 → (b3 && b4) = false := by
    intro b3 b4 h3 h4
    rw [← h3, ← h4]
    cases hb : decide (1 < (d.size : Int))
    · rfl
    · cases hb4 : ((d[0].toNat : Int) == 48)
      · rfl
      · exfalso
        refine HC3.out ⟨?_, ?_⟩
        · have := of_decide_eq_true hb
          omega
        · rw [HG0.out]
          exact beq_iff_eq.1 hb4
  clear c3
  obtain ⟨b3, t3⟩ : ∃ b, decide (1 < (d.size : Int)) = b := ⟨_, rfl⟩
  obtain ⟨b4, t4⟩ : ∃ b, ((d[0].toNat : Int) == 48) = b := ⟨_, rfl⟩
  have KB := Lib.hid (key b3 b4 t3 t4)
  clear key
  cases b3
  all_goals
    try (rw [Bool.true_and] at KB; have kb := KB.out; subst kb)
    go_wp2
    go_loop [4] (fun i => ∃ k : Nat, k ≤ d.size ∧ i = .int .i64 k ∧ ∀ j, j < k → isDig ((bts d).getD j 0) = true) (fun i => d.size - (intOf i).toNat)
    case atStart => exact ⟨0, Nat.zero_le _, rfl, fun j hj => absurd hj (Nat.not_lt_zero j)⟩
    case round =>
      obtain ⟨k, hk, rfl, hall⟩ := hrel
      have HA := Lib.hid hall
      clear hall
      by_cases hlt : k < d.size
      · have HGK := Lib.hid (bts_get hlt)
        cases hq : isDig ((d[k].toNat : Int))
        · have HQ := Lib.hid hq
          have HF := Lib.hid (HR.out.symm.trans (goodN_no (bts d) (by rw [HD.out, bts_length]; exact .inr (.inr (.inr (.inr ⟨k, hlt, by rw [HGK.out]; exact HQ.out⟩))))))
          clear hq
          go_wp2_with fail
          refine (rdigit_any _ _).mono ?_
          rintro e w2 ⟨rfl, rfl⟩
          rw [HQ.out]
          go_wp2
          go_ret
          exact ⟨ret_bool HF.out.symm, rfl⟩
        · have HQ := Lib.hid hq
          clear hq
          go_wp2_with fail
          refine (rdigit_any _ _).mono ?_
          rintro e w2 ⟨rfl, rfl⟩
          rw [HQ.out]
          go_wp2
          go_round
          case rel => exact ⟨k + 1, by omega, by go_num, fun j hj => by
            rcases Nat.lt_or_ge j k with h | h
            · exact HA.out j h
            · obtain rfl : j = k := by omega
              rw [HGK.out]
              exact HQ.out⟩
          case measure => simp [intOf]; omega
      · have hke : k = d.size := by omega
        have HF := Lib.hid (HR.out.symm.trans (goodN_yes (bts d) (by rw [HD.out, bts_length]; omega) (by rw [HD.out, bts_length]; omega) (by rw [HD.out, bts_length]; exact HC3.out) HC6.out (by rw [HD.out, bts_length]; exact fun j hj => HA.out j (by omega))))
        clear hke
        go_wp2
        go_ret
        exact ⟨ret_bool HF.out.symm, rfl⟩
theorem rgood_any (s : ByteArray) (w : World) (hs : s.size ≤ 281474976710656) :
    Calls Tryd.prog 46 #[.string s] w fun e w' => e = .returned (.bool (goodN (bts s))) ∧ w = w' := by
  cases h : stA (bts s) (isC 45) 0
  · exact rgood_plain s w hs h
  · exact rgood_minus s w hs h
end Go.Proofs.YtneadcbadnicfaaDoor
