/-
  What unicode/utf8.DecodeRune hands back at every slice of bytes that is not nil: the library's own contract, laid at this translation; and that the two tables it reads are those that the row lists. Condition: the tables hold what the row lists.
-/
import Derived.Test.YtleclhnlojalbaaGreatDoorPkW1
import Derived.Test.YtleclhnlojalbaaGreatDoorPkW2
import Derived.Test.YtleclhnlojalbaaGreatDoorPkW3
import Derived.Test.YtleclhnlojalbaaGreatDoorPkW10
import Derived.Deep.Cut
import Derived.Lib.Strings
import Derived.Test.YtleclhnlojalbaaGreatDoorRows
import Derived.WalkKit
import Derived.ProofKit
import Derived.OpenShut
import Derived.ShutString
import Derived.ChangeOld
import Derived.Below
import Derived.WalkLawsBesides
import Derived.WalkSpells
import Derived.Lib.Hide
import Derived.Outline
import Derived.Handy
import Derived.Shelf.Spec.DecodeRune
import Derived.Lib.LaidU8T
import Derived.KernelRfl
namespace Go.Proofs.YtleclhnlojalbaaGreatDoor
open Go.ChangeShapes Go.WideShapes Go.ChangeAt Go.RowKit Go.Shelf

theorem goodN_no (zs : List Int) (h : (digs zs).length < 1 ∨ 20 < (digs zs).length ∨ (1 < (digs zs).length ∧ (digs zs).getD 0 0 = 48) ∨ zs = [45, 48] ∨ ∃ j, j < (digs zs).length ∧ isDig ((digs zs).getD j 0) = false) : goodN zs = false := by
  cases hg : goodN zs
  · rfl
  · obtain ⟨a1, a2, a3, a4, a5⟩ := (goodN_iff zs).1 hg
    rcases h with h | h | h | h | ⟨j, h1, h2⟩
    · omega
    · omega
    · exact absurd h a3
    · exact absurd h a4
    · rw [a5 j h1] at h2
      cases h2
theorem goodN_yes (zs : List Int) (h1 : 1 ≤ (digs zs).length) (h2 : (digs zs).length ≤ 20) (h3 : ¬ (1 < (digs zs).length ∧ (digs zs).getD 0 0 = 48)) (h4 : zs ≠ [45, 48]) (h5 : ∀ j, j < (digs zs).length → isDig ((digs zs).getD j 0) = true) : goodN zs = true :=
  (goodN_iff zs).2 ⟨h1, h2, h3, h4, h5⟩
theorem bts_extract (s : ByteArray) : bts (s.extract 1 s.size) = (bts s).drop 1 := by
  unfold bts
  rw [Lib.extract_data, List.take_of_length_le (by simp)]
  simp
theorem extract_size (s : ByteArray) : (s.extract 1 s.size).size = s.size - 1 := by
  rw [← bts_length, bts_extract, List.length_drop, bts_length]
theorem bts_toList (s : ByteArray) (l : List UInt8) : (s.toList == l) = decide (bts s = l.map fun b => (b.toNat : Int)) := by
  rw [ByteArray.toList_eq, Bool.eq_iff_iff, beq_iff_eq, decide_eq_true_iff]
  unfold bts
  constructor
  · intro h; rw [h]
  · intro h
    have hinj : ∀ (a b : List UInt8), a.map (fun b => (b.toNat : Int)) = b.map (fun b => (b.toNat : Int)) → a = b := by
      intro a
      induction a with
      | nil => intro b hb; cases b with
        | nil => rfl
        | cons => cases hb
      | cons x r ih => intro b hb; cases b with
        | nil => cases hb
        | cons y q =>
          simp only [List.map_cons, List.cons.injEq] at hb
          have hxy : x = y := UInt8.toNat_inj.1 (by omega)
          rw [ih q hb.2, hxy]
    exact hinj _ _ h
set_option maxRecDepth 100000 in
theorem rgood_minus (s : ByteArray) (w : World) (hs : s.size ≤ 281474976710656) (h : stA (bts s) (isC 45) 0 = true) :
    Calls Tryz.prog 104 #[.string s] w fun e w' => e = .returned (.bool (goodN (bts s))) ∧ w = w' := by
  have h1 : 1 ≤ s.size := by have := stA_lt h; rw [bts_length] at this; omega
  have H := Lib.hid (of_decide_eq_true (show decide ((bts s).getD 0 0 = 45) = true from stA_p h))
  have HDX := Lib.hid (show digs (bts s) = bts (s.extract 1 s.size) from by unfold digs; rw [if_pos h, bts_extract])
  obtain ⟨r, hr⟩ : ∃ r, goodN (bts s) = r := ⟨_, rfl⟩
  have HR := Lib.hid hr
  rw [hr]
  clear h hr
  go_enter Tryz.func104, Tryz.ntmps104
  go_wp2_with fail
  refine (at_any s _ 0 _ rfl).mono ?_
  rintro e w1 ⟨rfl, rfl⟩
  rw [H.out]
  go_upto_region 4 with (fail)
  obtain ⟨d, hd⟩ : ∃ d, d = s.extract 1 s.size := ⟨_, rfl⟩
  rw [← hd]
  have HD : Hid (digs (bts s) = bts d) := by rw [hd]; exact HDX.out
  have hdl : d.size ≤ 281474976710656 := by rw [hd, extract_size]; omega
  have HMS := Lib.hid (show s.size = d.size + 1 from by rw [hd, extract_size]; omega)
  clear hd HDX
  by_cases c1 : d.size < 1
  · have t1 : decide ((d.size : Int) < 1) = true := by simp; omega
    have HF := Lib.hid (HR.out.symm.trans (goodN_no (bts s) (by rw [HD.out, bts_length]; exact .inl c1)))
    go_wp2
    go_ret
    exact ⟨ret_bool HF.out.symm, rfl⟩
  have t1 : decide ((d.size : Int) < 1) = false := by simp; omega
  have p1 : 0 < d.size := by omega
  by_cases c2 : 20 < d.size
  · have t2 : decide (20 < (d.size : Int)) = true := by simp; omega
    have HF := Lib.hid (HR.out.symm.trans (goodN_no (bts s) (by rw [HD.out, bts_length]; exact .inr (.inl c2))))
    go_wp2
    go_ret
    exact ⟨ret_bool HF.out.symm, rfl⟩
  have t2 : decide (20 < (d.size : Int)) = false := by simp; omega
  have HG0 := Lib.hid (bts_get p1)
  have t6 : (s.toList == [45, 48]) = decide (bts s = [45, 48]) := bts_toList s _
  have H6 := Lib.hid t6
  clear t6
  by_cases c6 : bts s = [45, 48]
  · have HF := Lib.hid (HR.out.symm.trans (goodN_no (bts s) (.inr (.inr (.inr (.inl c6))))))
    have t6 : (s.toList == [45, 48]) = true := by rw [H6.out, decide_eq_true c6]
    have t3 : decide (1 < (d.size : Int)) = false := by
      have h1 := congrArg List.length c6
      have h2 := HMS.out
      rw [bts_length] at h1
      simp at h1 ⊢
      omega
    clear c6
    go_wp2
    go_ret
    exact ⟨ret_bool HF.out.symm, rfl⟩
  have t6 : (s.toList == [45, 48]) = false := by rw [H6.out, decide_eq_false c6]
  have HC6 := Lib.hid c6
  clear c6
  by_cases c3 : 1 < d.size ∧ (bts d).getD 0 0 = 48
  · have HF := Lib.hid (HR.out.symm.trans (goodN_no (bts s) (by rw [HD.out, bts_length]; exact .inr (.inr (.inl c3)))))
    have t3 : decide (1 < (d.size : Int)) = true := by simp; omega
    have c4 := c3.2
    rw [HG0.out] at c4
    have t4 : ((d[0].toNat : Int) == 48) = true := by simp only [beq_iff_eq]; exact c4
    clear c3 c4
    go_wp2
    go_ret
    exact ⟨ret_bool HF.out.symm, rfl⟩
  have HC3 := Lib.hid c3
  have key : ∀ b3 b4 : Bool, decide (1 < (d.size : Int)) = b3 → ((d[0].toNat : Int) == 48) = b4 → (b3 && b4) = false := by
    intro b3 b4 h3 h4
    rw [← h3, ← h4]
    cases hb : decide (1 < (d.size : Int))
    · rfl
    · cases hb4 : ((d[0].toNat : Int) == 48)
      · rfl
      · exfalso
        refine HC3.out ⟨?_, ?_⟩
        · have := of_decide_eq_true hb
          omega
        · rw [HG0.out]
          exact beq_iff_eq.1 hb4
  clear c3
  obtain ⟨b3, t3⟩ : ∃ b, decide (1 < (d.size : Int)) = b := ⟨_, rfl⟩
  obtain ⟨b4, t4⟩ : ∃ b, ((d[0].toNat : Int) == 48) = b := ⟨_, rfl⟩
  have KB := Lib.hid (key b3 b4 t3 t4)
  clear key
  cases b3
  all_goals
    try (rw [Bool.true_and] at KB; have kb := KB.out; subst kb)
    go_wp2
    go_loop [4] (fun i => ∃ k : Nat, k ≤ d.size ∧ i = .int .i64 k ∧ ∀ j, j < k → isDig ((bts d).getD j 0) = true) (fun i => d.size - (intOf i).toNat)
    case atStart => exact ⟨0, Nat.zero_le _, rfl, fun j hj => absurd hj (Nat.not_lt_zero j)⟩
    case round =>
      obtain ⟨k, hk, rfl, hall⟩ := hrel
      have HA := Lib.hid hall
      clear hall
      by_cases hlt : k < d.size
      · have HGK := Lib.hid (bts_get hlt)
        cases hq : isDig ((d[k].toNat : Int))
        · have HQ := Lib.hid hq
          have HF := Lib.hid (HR.out.symm.trans (goodN_no (bts s) (by rw [HD.out, bts_length]; exact .inr (.inr (.inr (.inr ⟨k, hlt, by rw [HGK.out]; exact HQ.out⟩))))))
          clear hq
          go_wp2_with fail
          refine (rdigit_any _ _).mono ?_
          rintro e w2 ⟨rfl, rfl⟩
          rw [HQ.out]
          go_wp2
          go_ret
          exact ⟨ret_bool HF.out.symm, rfl⟩
        · have HQ := Lib.hid hq
          clear hq
          go_wp2_with fail
          refine (rdigit_any _ _).mono ?_
          rintro e w2 ⟨rfl, rfl⟩
          rw [HQ.out]
          go_wp2
          go_round
          case rel => exact ⟨k + 1, by omega, by go_num, fun j hj => by
            rcases Nat.lt_or_ge j k with h | h
            · exact HA.out j h
            · obtain rfl : j = k := by omega
              rw [HGK.out]
              exact HQ.out⟩
          case measure => simp [intOf]; omega
      · have hke : k = d.size := by omega
        have HF := Lib.hid (HR.out.symm.trans (goodN_yes (bts s) (by rw [HD.out, bts_length]; omega) (by rw [HD.out, bts_length]; omega) (by rw [HD.out, bts_length]; exact HC3.out) HC6.out (by rw [HD.out, bts_length]; exact fun j hj => HA.out j (by omega))))
        clear hke
        go_wp2
        go_ret
        exact ⟨ret_bool HF.out.symm, rfl⟩
set_option maxRecDepth 100000 in
theorem rgood_plain (s : ByteArray) (w : World) (hs : s.size ≤ 281474976710656) (h : stA (bts s) (isC 45) 0 = false) :
    Calls Tryz.prog 104 #[.string s] w fun e w' => e = .returned (.bool (goodN (bts s))) ∧ w = w' := by
  have t0 : ((bts s).getD 0 0 == 45) = false := by
    by_cases hi : 0 < s.size
    · rw [stA_of (by rw [bts_length]; exact hi)] at h
      exact h
    · rw [bts_end (by omega)]
      rfl
  have HDX := Lib.hid (show digs (bts s) = bts s from by unfold digs; rw [if_neg (by rw [h]; decide)])
  obtain ⟨r, hr⟩ : ∃ r, goodN (bts s) = r := ⟨_, rfl⟩
  have HR := Lib.hid hr
  rw [hr]
  clear h hr
  go_enter Tryz.func104, Tryz.ntmps104
  go_wp2_with fail
  refine (at_any s _ 0 _ rfl).mono ?_
  rintro e w1 ⟨rfl, rfl⟩
  generalize (bts s).getD 0 0 = z0 at t0 ⊢
  go_upto_region 4 with (fail)
  obtain ⟨d, hd⟩ : ∃ d, d = s := ⟨_, rfl⟩
  have HD : Hid (digs (bts s) = bts d) := by rw [hd]; exact HDX.out
  subst hd
  have hdl := hs
  have HMS : Hid (d.size = d.size) := rfl
  clear HDX
  by_cases c1 : d.size < 1
  · have t1 : decide ((d.size : Int) < 1) = true := by simp; omega
    have HF := Lib.hid (HR.out.symm.trans (goodN_no (bts d) (by rw [HD.out, bts_length]; exact .inl c1)))
    go_wp2
    go_ret
    exact ⟨ret_bool HF.out.symm, rfl⟩
  have t1 : decide ((d.size : Int) < 1) = false := by simp; omega
  have p1 : 0 < d.size := by omega
  by_cases c2 : 20 < d.size
  · have t2 : decide (20 < (d.size : Int)) = true := by simp; omega
    have HF := Lib.hid (HR.out.symm.trans (goodN_no (bts d) (by rw [HD.out, bts_length]; exact .inr (.inl c2))))
    go_wp2
    go_ret
    exact ⟨ret_bool HF.out.symm, rfl⟩
  have t2 : decide (20 < (d.size : Int)) = false := by simp; omega
  have HG0 := Lib.hid (bts_get p1)
  have t6 : (d.toList == [45, 48]) = decide (bts d = [45, 48]) := bts_toList d _
  have H6 := Lib.hid t6
  clear t6
  by_cases c6 : bts d = [45, 48]
  · have HF := Lib.hid (HR.out.symm.trans (goodN_no (bts d) (.inr (.inr (.inr (.inl c6))))))
    have t6 : (d.toList == [45, 48]) = true := by rw [H6.out, decide_eq_true c6]
    exfalso
    have h1 := congrArg (fun l => digs l) c6
    have h2 := congrArg List.length (HD.out.symm.trans h1)
    have h3 := congrArg List.length c6
    rw [h3] at h2
    exact absurd h2 (by decide)
  have t6 : (d.toList == [45, 48]) = false := by rw [H6.out, decide_eq_false c6]
  have HC6 := Lib.hid c6
  clear c6
  by_cases c3 : 1 < d.size ∧ (bts d).getD 0 0 = 48
  · have HF := Lib.hid (HR.out.symm.trans (goodN_no (bts d) (by rw [HD.out, bts_length]; exact .inr (.inr (.inl c3)))))
    have t3 : decide (1 < (d.size : Int)) = true := by simp; omega
    have c4 := c3.2
    rw [HG0.out] at c4
    have t4 : ((d[0].toNat : Int) == 48) = true := by simp only [beq_iff_eq]; exact c4
    clear c3 c4
    go_wp2
    go_ret
    exact ⟨ret_bool HF.out.symm, rfl⟩
  have HC3 := Lib.hid c3
  have key : ∀ b3 b4 : Bool, decide (1 < (d.size : Int)) = b3 → ((d[0].toNat : Int) == 48) = b4 → (b3 && b4) = false := by
    intro b3 b4 h3 h4
    rw [← h3, ← h4]
    cases hb : decide (1 < (d.size : Int))
    · rfl
    · cases hb4 : ((d[0].toNat : Int) == 48)
      · rfl
      · exfalso
        refine HC3.out ⟨?_, ?_⟩
        · have := of_decide_eq_true hb
          omega
        · rw [HG0.out]
          exact beq_iff_eq.1 hb4
  clear c3
  obtain ⟨b3, t3⟩ : ∃ b, decide (1 < (d.size : Int)) = b := ⟨_, rfl⟩
  obtain ⟨b4, t4⟩ : ∃ b, ((d[0].toNat : Int) == 48) = b := ⟨_, rfl⟩
  have KB := Lib.hid (key b3 b4 t3 t4)
  clear key
  cases b3
  all_goals
    try (rw [Bool.true_and] at KB; have kb := KB.out; subst kb)
    go_wp2
    go_loop [4] (fun i => ∃ k : Nat, k ≤ d.size ∧ i = .int .i64 k ∧ ∀ j, j < k → isDig ((bts d).getD j 0) = true) (fun i => d.size - (intOf i).toNat)
    case atStart => exact ⟨0, Nat.zero_le _, rfl, fun j hj => absurd hj (Nat.not_lt_zero j)⟩
    case round =>
      obtain ⟨k, hk, rfl, hall⟩ := hrel
      have HA := Lib.hid hall
      clear hall
      by_cases hlt : k < d.size
      · have HGK := Lib.hid (bts_get hlt)
        cases hq : isDig ((d[k].toNat : Int))
        · have HQ := Lib.hid hq
          have HF := Lib.hid (HR.out.symm.trans (goodN_no (bts d) (by rw [HD.out, bts_length]; exact .inr (.inr (.inr (.inr ⟨k, hlt, by rw [HGK.out]; exact HQ.out⟩))))))
          clear hq
          go_wp2_with fail
          refine (rdigit_any _ _).mono ?_
          rintro e w2 ⟨rfl, rfl⟩
          rw [HQ.out]
          go_wp2
          go_ret
          exact ⟨ret_bool HF.out.symm, rfl⟩
        · have HQ := Lib.hid hq
          clear hq
          go_wp2_with fail
          refine (rdigit_any _ _).mono ?_
          rintro e w2 ⟨rfl, rfl⟩
          rw [HQ.out]
          go_wp2
          go_round
          case rel => exact ⟨k + 1, by omega, by go_num, fun j hj => by
            rcases Nat.lt_or_ge j k with h | h
            · exact HA.out j h
            · obtain rfl : j = k := by omega
              rw [HGK.out]
              exact HQ.out⟩
          case measure => simp [intOf]; omega
      · have hke : k = d.size := by omega
        have HF := Lib.hid (HR.out.symm.trans (goodN_yes (bts d) (by rw [HD.out, bts_length]; omega) (by rw [HD.out, bts_length]; omega) (by rw [HD.out, bts_length]; exact HC3.out) HC6.out (by rw [HD.out, bts_length]; exact fun j hj => HA.out j (by omega))))
        clear hke
        go_wp2
        go_ret
        exact ⟨ret_bool HF.out.symm, rfl⟩
theorem rgood_any (s : ByteArray) (w : World) (hs : s.size ≤ 281474976710656) :
    Calls Tryz.prog 104 #[.string s] w fun e w' => e = .returned (.bool (goodN (bts s))) ∧ w = w' := by
  cases h : stA (bts s) (isC 45) 0
  · exact rgood_plain s w hs h
  · exact rgood_minus s w hs h
end Go.Proofs.YtleclhnlojalbaaGreatDoor
namespace Go.Proofs.YtleclhnlojalbaaGreatDoor
open Go.ChangeShapes Go.WideShapes Go.ChangeAt Go.RowKit

theorem sized_yes (n : Int) (w : World) (h : n = 1 ∨ n = 2 ∨ n = 4 ∨ n = 8) :
    Calls Tryz.prog 155 #[.int .i64 n] w fun e w' => e = .returned (.bool true) ∧ w = w' := by
  rcases h with rfl | rfl | rfl | rfl
  all_goals
    go_enter Tryz.func155, Tryz.ntmps155
    go_wp2
    go_ret
    exact ⟨rfl, rfl⟩
theorem sized_no (n : Int) (w : World) (h : ¬ (n = 1 ∨ n = 2 ∨ n = 4 ∨ n = 8)) :
    Calls Tryz.prog 155 #[.int .i64 n] w fun e w' => e = .returned (.bool false) ∧ w = w' := by
  have h1 : (n == 1) = false := by simp; omega
  have h2 : (n == 2) = false := by simp; omega
  have h4 : (n == 4) = false := by simp; omega
  have h8 : (n == 8) = false := by simp; omega
  clear h
  go_enter Tryz.func155, Tryz.ntmps155
  go_wp2
  go_ret
  exact ⟨rfl, rfl⟩
end Go.Proofs.YtleclhnlojalbaaGreatDoor
namespace Go.Proofs.YtleclhnlojalbaaGreatDoor
open Go.ChangeShapes Go.WideShapes Go.ChangeAt Go.RowKit

theorem rsized_yes (n : Int) (w : World) (h : n = 1 ∨ n = 2 ∨ n = 4 ∨ n = 8) :
    Calls Tryz.prog 109 #[.int .i64 n] w fun e w' => e = .returned (.bool true) ∧ w = w' := by
  rcases h with rfl | rfl | rfl | rfl
  all_goals
    go_enter Tryz.func109, Tryz.ntmps109
    go_wp2
    go_ret
    exact ⟨ret_bool (by kernel_rfl), rfl⟩
theorem rsized_no (n : Int) (w : World) (h : ¬ (n = 1 ∨ n = 2 ∨ n = 4 ∨ n = 8)) :
    Calls Tryz.prog 109 #[.int .i64 n] w fun e w' => e = .returned (.bool false) ∧ w = w' := by
  by_cases h0 : n ≤ 0
  · clear h
    go_enter Tryz.func109, Tryz.ntmps109
    go_wp2
    go_ret
    exact ⟨rfl, rfl⟩
  by_cases h8 : 8 < n
  · clear h
    go_enter Tryz.func109, Tryz.ntmps109
    go_wp2
    go_ret
    exact ⟨rfl, rfl⟩
  have h' : n = 3 ∨ n = 5 ∨ n = 6 ∨ n = 7 := by omega
  clear h h0 h8
  rcases h' with rfl | rfl | rfl | rfl
  all_goals
    go_enter Tryz.func109, Tryz.ntmps109
    go_wp2
    go_ret
    exact ⟨ret_bool (by kernel_rfl), rfl⟩
end Go.Proofs.YtleclhnlojalbaaGreatDoor
namespace Go.Proofs.YtleclhnlojalbaaGreatDoor
open Go.ChangeShapes Go.WideShapes Go.ChangeAt Go.RowKit Go.Shelf

theorem fits_un (v : Int) (size m : Int) (h : span size = m) (hm : 0 < m) (h0 : 0 ≤ v) : (v / m == 0) = fitsB v false size false := by
  unfold fitsB
  rw [h, if_neg (by decide), Bool.not_false, Bool.true_and, Bool.eq_iff_iff, beq_iff_eq, decide_eq_true_iff]
  constructor
  · intro hz
    have h1 := Int.emod_lt_of_pos v hm
    have h2 := Int.mul_ediv_add_emod v m
    rw [hz, Int.mul_zero] at h2
    omega
  · intro hl
    exact Int.ediv_eq_zero_of_lt h0 hl
theorem fits_below (v : Int) (size : Int) : false = fitsB v true size false := by
  unfold fitsB
  rw [if_neg (by decide), Bool.not_true, Bool.false_and]
theorem fits_sg (v : Int) (size m : Int) (h : span size / 2 = m) : decide (v < m) = fitsB v false size true := by
  unfold fitsB
  rw [h, if_pos rfl, Bool.false_and, Bool.or_false]
theorem fits_sb (v : Int) (size m : Int) (h : span size / 2 = m) : (decide (v < m) || v == m) = fitsB v true size true := by
  unfold fitsB
  rw [h, if_pos rfl, Bool.true_and]
  rfl
theorem span_1 : span 1 = 256 := rfl
theorem span_2 : span 2 = 65536 := rfl
theorem span_4 : span 4 = 4294967296 := rfl
theorem span_8 : span 8 = 18446744073709551616 := rfl
theorem half_1 : span 1 / 2 = 128 := rfl
theorem half_2 : span 2 / 2 = 32768 := rfl
theorem half_4 : span 4 / 2 = 2147483648 := rfl
theorem half_8 : span 8 / 2 = 9223372036854775808 := rfl
set_option maxHeartbeats 1000000 in
theorem fits_any (v : Int) (below : Bool) (size : Int) (sign : Bool) (w : World) (h0 : 0 ≤ v) (hs : size = 1 ∨ size = 2 ∨ size = 4 ∨ size = 8) :
    Calls Tryz.prog 158 #[.int .u64 v, .bool below, .int .i64 size, .bool sign] w fun e w' => e = .returned (.bool (fitsB v below size sign)) ∧ w = w' := by
  rcases hs with rfl | rfl | rfl | rfl
  · cases sign <;> cases below
    · have e := Lib.hid (fits_un v 1 256 span_1 (by decide) h0)
      go_enter Tryz.func158, Tryz.ntmps158
      go_wp2
      all_goals
        go_ret
        exact ⟨ret_bool e.out, rfl⟩
    · have e := Lib.hid (fits_below v 1)
      go_enter Tryz.func158, Tryz.ntmps158
      go_wp2
      all_goals
        go_ret
        exact ⟨ret_bool e.out, rfl⟩
    · by_cases hl : v < 128
      · have e := Lib.hid (fits_sg v 1 128 half_1)
        have t : decide (v < 128) = true := by simpa using hl
        rw [t] at e
        go_enter Tryz.func158, Tryz.ntmps158
        go_wp2
        go_ret
        exact ⟨ret_bool (e.out), rfl⟩
      · have e := Lib.hid (fits_sg v 1 128 half_1)
        have t : decide (v < 128) = false := by simpa using hl
        rw [t] at e
        go_enter Tryz.func158, Tryz.ntmps158
        go_wp2
        go_ret
        exact ⟨ret_bool (e.out), rfl⟩
    · by_cases hl : v < 128
      · have e := Lib.hid (fits_sb v 1 128 half_1)
        have t : decide (v < 128) = true := by simpa using hl
        rw [t] at e
        go_enter Tryz.func158, Tryz.ntmps158
        go_wp2
        go_ret
        exact ⟨ret_bool (e.out), rfl⟩
      · have e := Lib.hid (fits_sb v 1 128 half_1)
        have t : decide (v < 128) = false := by simpa using hl
        rw [t] at e
        go_enter Tryz.func158, Tryz.ntmps158
        go_wp2
        go_ret
        exact ⟨ret_bool (e.out), rfl⟩
  · cases sign <;> cases below
    · have e := Lib.hid (fits_un v 2 65536 span_2 (by decide) h0)
      go_enter Tryz.func158, Tryz.ntmps158
      go_wp2
      all_goals
        go_ret
        exact ⟨ret_bool e.out, rfl⟩
    · have e := Lib.hid (fits_below v 2)
      go_enter Tryz.func158, Tryz.ntmps158
      go_wp2
      all_goals
        go_ret
        exact ⟨ret_bool e.out, rfl⟩
    · by_cases hl : v < 32768
      · have e := Lib.hid (fits_sg v 2 32768 half_2)
        have t : decide (v < 32768) = true := by simpa using hl
        rw [t] at e
        go_enter Tryz.func158, Tryz.ntmps158
        go_wp2
        go_ret
        exact ⟨ret_bool (e.out), rfl⟩
      · have e := Lib.hid (fits_sg v 2 32768 half_2)
        have t : decide (v < 32768) = false := by simpa using hl
        rw [t] at e
        go_enter Tryz.func158, Tryz.ntmps158
        go_wp2
        go_ret
        exact ⟨ret_bool (e.out), rfl⟩
    · by_cases hl : v < 32768
      · have e := Lib.hid (fits_sb v 2 32768 half_2)
        have t : decide (v < 32768) = true := by simpa using hl
        rw [t] at e
        go_enter Tryz.func158, Tryz.ntmps158
        go_wp2
        go_ret
        exact ⟨ret_bool (e.out), rfl⟩
      · have e := Lib.hid (fits_sb v 2 32768 half_2)
        have t : decide (v < 32768) = false := by simpa using hl
        rw [t] at e
        go_enter Tryz.func158, Tryz.ntmps158
        go_wp2
        go_ret
        exact ⟨ret_bool (e.out), rfl⟩
  · cases sign <;> cases below
    · have e := Lib.hid (fits_un v 4 4294967296 span_4 (by decide) h0)
      go_enter Tryz.func158, Tryz.ntmps158
      go_wp2
      all_goals
        go_ret
        exact ⟨ret_bool e.out, rfl⟩
    · have e := Lib.hid (fits_below v 4)
      go_enter Tryz.func158, Tryz.ntmps158
      go_wp2
      all_goals
        go_ret
        exact ⟨ret_bool e.out, rfl⟩
    · by_cases hl : v < 2147483648
      · have e := Lib.hid (fits_sg v 4 2147483648 half_4)
        have t : decide (v < 2147483648) = true := by simpa using hl
        rw [t] at e
        go_enter Tryz.func158, Tryz.ntmps158
        go_wp2
        go_ret
        exact ⟨ret_bool (e.out), rfl⟩
      · have e := Lib.hid (fits_sg v 4 2147483648 half_4)
        have t : decide (v < 2147483648) = false := by simpa using hl
        rw [t] at e
        go_enter Tryz.func158, Tryz.ntmps158
        go_wp2
        go_ret
        exact ⟨ret_bool (e.out), rfl⟩
    · by_cases hl : v < 2147483648
      · have e := Lib.hid (fits_sb v 4 2147483648 half_4)
        have t : decide (v < 2147483648) = true := by simpa using hl
        rw [t] at e
        go_enter Tryz.func158, Tryz.ntmps158
        go_wp2
        go_ret
        exact ⟨ret_bool (e.out), rfl⟩
      · have e := Lib.hid (fits_sb v 4 2147483648 half_4)
        have t : decide (v < 2147483648) = false := by simpa using hl
        rw [t] at e
        go_enter Tryz.func158, Tryz.ntmps158
        go_wp2
        go_ret
        exact ⟨ret_bool (e.out), rfl⟩
  · cases sign <;> cases below
    · have e := Lib.hid (fits_un v 8 18446744073709551616 span_8 (by decide) h0)
      go_enter Tryz.func158, Tryz.ntmps158
      go_wp2
      all_goals
        go_ret
        exact ⟨ret_bool e.out, rfl⟩
    · have e := Lib.hid (fits_below v 8)
      go_enter Tryz.func158, Tryz.ntmps158
      go_wp2
      all_goals
        go_ret
        exact ⟨ret_bool e.out, rfl⟩
    · by_cases hl : v < 9223372036854775808
      · have e := Lib.hid (fits_sg v 8 9223372036854775808 half_8)
        have t : decide (v < 9223372036854775808) = true := by simpa using hl
        rw [t] at e
        go_enter Tryz.func158, Tryz.ntmps158
        go_wp2
        go_ret
        exact ⟨ret_bool (e.out), rfl⟩
      · have e := Lib.hid (fits_sg v 8 9223372036854775808 half_8)
        have t : decide (v < 9223372036854775808) = false := by simpa using hl
        rw [t] at e
        go_enter Tryz.func158, Tryz.ntmps158
        go_wp2
        go_ret
        exact ⟨ret_bool (e.out), rfl⟩
    · by_cases hl : v < 9223372036854775808
      · have e := Lib.hid (fits_sb v 8 9223372036854775808 half_8)
        have t : decide (v < 9223372036854775808) = true := by simpa using hl
        rw [t] at e
        go_enter Tryz.func158, Tryz.ntmps158
        go_wp2
        go_ret
        exact ⟨ret_bool (e.out), rfl⟩
      · have e := Lib.hid (fits_sb v 8 9223372036854775808 half_8)
        have t : decide (v < 9223372036854775808) = false := by simpa using hl
        rw [t] at e
        go_enter Tryz.func158, Tryz.ntmps158
        go_wp2
        go_ret
        exact ⟨ret_bool (e.out), rfl⟩
end Go.Proofs.YtleclhnlojalbaaGreatDoor
namespace Go.Proofs.YtleclhnlojalbaaGreatDoor
open Go.RowKit Go.Lib

def dec7_ren : Go.Shelf.Ren := ⟨fun | 32 => 153 | 49 => 167 | n => n, fun | 30 => 24 | 21 => 21 | 3 => 3 | 0 => 0 | 5 => 5 | 4 => 4 | 33 => 209 | 66 => 225 | 25 => 37 | 69 => 228 | 68 => 227 | n => n, fun | 2 => 1 | 3 => 2 | n => n⟩
theorem dec7 : Go.Proofs.Lays7.n32 Tryz.prog dec7_ren := {
  mixed := by kernel_rfl
  f32 := Tryz.func153.trans (congrArg some (by kernel_rfl))
  f49 := Tryz.func167.trans (congrArg some (by kernel_rfl))
  t0 := Tryz.underlying0
  a0 := Tryz.isAgg0
  z0 := Tryz.sizeOf0
  v0 := Tryz.zeroValue0
  i0 := by kernel_rfl
  t3 := Tryz.underlying3
  a3 := Tryz.isAgg3
  z3 := Tryz.sizeOf3
  v3 := Tryz.zeroValue3
  i3 := by kernel_rfl
  t4 := Tryz.underlying4
  a4 := Tryz.isAgg4
  z4 := Tryz.sizeOf4
  v4 := Tryz.zeroValue4
  i4 := by kernel_rfl
  t5 := Tryz.underlying5
  a5 := Tryz.isAgg5
  z5 := Tryz.sizeOf5
  v5 := Tryz.zeroValue5
  i5 := by kernel_rfl
  t21 := Tryz.underlying21
  a21 := Tryz.isAgg21
  z21 := Tryz.sizeOf21
  v21 := Tryz.zeroValue21
  i21 := by kernel_rfl
  t25 := Tryz.underlying37
  a25 := Tryz.isAgg37
  z25 := Tryz.sizeOf37
  v25 := Tryz.zeroValue37
  i25 := by kernel_rfl
  t30 := Tryz.underlying24
  a30 := Tryz.isAgg24
  z30 := Tryz.sizeOf24
  v30 := Tryz.zeroValue24
  i30 := by kernel_rfl
  t33 := Tryz.underlying209
  a33 := Tryz.isAgg209
  z33 := Tryz.sizeOf209
  v33 := Tryz.zeroValue209
  i33 := by kernel_rfl
  t66 := Tryz.underlying225
  a66 := Tryz.isAgg225
  z66 := Tryz.sizeOf225
  t68 := Tryz.underlying227
  a68 := Tryz.isAgg227
  z68 := Tryz.sizeOf227
  v68 := Tryz.zeroValue227
  i68 := by kernel_rfl
  t69 := Tryz.underlying228
  a69 := Tryz.isAgg228
  z69 := Tryz.sizeOf228
  v69 := Tryz.zeroValue228
  i69 := by kernel_rfl
  g2 := by kernel_rfl
  g3 := by kernel_rfl }

def Tabs (w : World) : Prop := Lib.Utf8Tabs 1 2 w
def tabs_ren : Go.Shelf.Ren := ⟨fun n => n, fun | 5 => 5 | 119 => 225 | 138 => 227 | 139 => 228 | n => n, fun | 3 => 1 | 4 => 2 | n => n⟩
theorem u8types : U8Types Tryz.prog tabs_ren := { t5 := Tryz.underlying5, t119 := Tryz.underlying225, t138 := Tryz.underlying227, t139 := Tryz.underlying228 }
theorem u8extra : U8Extra Tryz.prog tabs_ren := { n3 := by kernel_rfl, n4 := by kernel_rfl, y3 := by kernel_rfl, y4 := by kernel_rfl, c5 := by kernel_rfl, c119 := by kernel_rfl, c138 := by kernel_rfl }
theorem first_is : Rows.laid_unicode_utf8_first = Lib.firstData := by kernel_rfl
theorem accept_is : Rows.laid_unicode_utf8_acceptRanges (H := Unit) = Lib.acceptData := by kernel_rfl
theorem Tabs.sizes {w : World} (h : Tabs w) : 1 < w.heap.size ∧ 2 < w.heap.size := by
  constructor
  · exact World.block_lt_of_cell? _ _ (h.1 0 (by decide))
  · exact World.block_lt_of_cell? _ _ (h.2 0 (by decide)).1
theorem Tabs.below {w w' : World} {B : Nat} (h : Tabs w) (hB : w.heap.size ≤ B) (hb : Below B w w') : Tabs w' := by
  obtain ⟨s0, s1⟩ := h.sizes
  refine ⟨fun c hc => ?_, fun i hi => ⟨?_, ?_⟩⟩
  · exact (hb.cell (p := ⟨_, c, none⟩) (Nat.lt_of_lt_of_le s0 hB)).trans (h.1 c hc)
  · exact (hb.cell (p := ⟨_, 2 * i, none⟩) (Nat.lt_of_lt_of_le s1 hB)).trans (h.2 i hi).1
  · exact (hb.cell (p := ⟨_, 2 * i + 1, none⟩) (Nat.lt_of_lt_of_le s1 hB)).trans (h.2 i hi).2

/-! ### the bytes of a list of numbers -/
def bytesOf (zs : List Int) : ByteArray := ⟨(zs.map fun z => UInt8.ofNat z.toNat).toArray⟩
theorem bytesOf_size (zs : List Int) : (bytesOf zs).size = zs.length := by simp [bytesOf, ByteArray.size]
theorem bytesOf_get (zs : List Int) (hb : ∀ i, 0 ≤ zs.getD i 0 ∧ zs.getD i 0 ≤ 255) (j : Nat) (hj : j < zs.length) : (((bytesOf zs).get! j).toNat : Int) = zs.getD j 0 := by
  have h := hb j
  have e : zs.getD j 0 = zs[j] := by simp [List.getD, hj]
  rw [e] at h ⊢
  have : (bytesOf zs).get! j = UInt8.ofNat zs[j].toNat := by
    simp [bytesOf, ByteArray.get!, hj]
  rw [this]
  simp only [UInt8.toNat_ofNat']
  omega
def dec (zs : List Int) : Int × Int := (((Lib.decodeGo (bytesOf zs)).1 : Int), ((Lib.decodeGo (bytesOf zs)).2 : Int))
theorem dec_any (zs : List Int) (b off cap : Nat) (w : World) (hT : Tabs w) (hc : ∀ i, i < zs.length → w.cell? ⟨b, off + i, none⟩ = some (.int .u8 (zs.getD i 0))) (hb : ∀ i, 0 ≤ zs.getD i 0 ∧ zs.getD i 0 ≤ 255) :
    Calls Tryz.prog 153 #[.slice (some ⟨b, off, none⟩) zs.length cap] w fun e w' => e = .returned (.tuple #[.int .i32 (dec zs).1, .int .i64 (dec zs).2]) ∧ Below w.heap.size w w' := by
  have h := Any7.utf8_DecodeRune dec7 (bytesOf zs) b off cap w hT (fun j hj => by
    have hj' : j < zs.length := by rw [bytesOf_size] at hj; exact hj
    rw [hc j hj', bytesOf_get zs hb j hj'])
  rw [bytesOf_size] at h
  exact h
theorem decodeN_width (n b0 b1 b2 b3 : Nat) (hn : 0 < n) : 1 ≤ (Lib.decodeN n b0 b1 b2 b3).2 ∧ (Lib.decodeN n b0 b1 b2 b3).2 ≤ 4 ∧ (Lib.decodeN n b0 b1 b2 b3).2 ≤ n := by
  unfold Lib.decodeN
  repeat' split
  all_goals (simp only; omega)
theorem dec_width (zs : List Int) (h : 0 < zs.length) : 1 ≤ (dec zs).2 ∧ (dec zs).2 ≤ 4 ∧ (dec zs).2 ≤ zs.length := by
  have e : Lib.decodeGo (bytesOf zs) = Utf8.decode (bytesOf zs) 0 := by
    unfold Lib.decodeGo
    rw [if_neg (by rw [bytesOf_size]; omega)]
  unfold dec
  rw [e, Lib.decode_at, bytesOf_size]
  have := decodeN_width (zs.length - 0) ((bytesOf zs).get! 0).toNat ((bytesOf zs).get! (0 + 1)).toNat ((bytesOf zs).get! (0 + 2)).toNat ((bytesOf zs).get! (0 + 3)).toNat (by omega)
  simp only
  omega
end Go.Proofs.YtleclhnlojalbaaGreatDoor
