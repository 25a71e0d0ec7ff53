/-
  The package lex's number: the place behind a number. Conditions: those that each theorem names.
-/
import Derived.Test.YtneadcbadnicfaaDoorScan
namespace Go.Proofs.YtneadcbadnicfaaDoor
open Go.ChangeShapes Go.WideShapes Go.ChangeAt Go.RowKit Go.Shelf

def numVal (zs : List Int) (i : Nat) : Value := if numBad zs i = true then .tuple #[.int .i64 0, .bool false] else .tuple #[.int .i64 (numEnd zs i : Nat), .bool true]
theorem numVal_eq (zs : List Int) (i : Nat) : numVal zs i = if numBad zs i = true then .tuple #[.int .i64 0, .bool false] else .tuple #[.int .i64 (numEnd zs i : Nat), .bool true] := rfl
theorem numVal_bad {c : Bool} (E : Nat) (h : c = true) : (if c = true then Value.tuple #[.int .i64 0, .bool false] else .tuple #[.int .i64 (E : Nat), .bool true]) = .tuple #[.int .i64 0, .bool false] := if_pos h
theorem numVal_good {c : Bool} (E : Nat) (h : c = false) : (if c = true then Value.tuple #[.int .i64 0, .bool false] else .tuple #[.int .i64 (E : Nat), .bool true]) = .tuple #[.int .i64 (E : Nat), .bool true] := if_neg (by rw [h]; decide)
set_option maxHeartbeats 800000 in
theorem number_any (p : Option Addr) (n cap i : Nat) (x : Int) (zs : List Int) (w : World) (hx : x = i) (hz : Bytes w p zs) (hn : zs.length = n) (hl : n ≤ 281474976710656) (hi : i ≤ n) :
    Calls Tryd.prog 63 #[.slice p n cap, .int .i64 x] w fun e w' => e = .returned (numVal zs i) ∧ Below w.heap.size w w' := by
  subst hx
  have HR := Lib.hid (fun (j : Nat) (y : Int) v k W hy hb hk => stands_any p n cap j y zs v k W hy (Bytes.below hz (Nat.le_refl _) hb) hn hk hl)
  have HU := Lib.hid (fun (j : Nat) (y : Int) v k W hy hj hb hk => run_any p n cap j y zs v k W hy (Bytes.below hz (Nat.le_refl _) hb) hn hk hl hj)
  have HN := Lib.hid hn
  clear hz hn
  cases h0 : stA zs (isC 45) i
  · have hM : minusTo zs i = i := by unfold minusTo; rw [if_neg (by rw [h0]; decide)]
    have hE : numBad zs i = (decide (runTo zs isDig i - i = 0) || decide (20 < runTo zs isDig i - i) || stA zs isLet (runTo zs isDig i) || (stA zs (isC 48) i && (false || decide (1 < runTo zs isDig i - i)))) := by
      unfold numBad zeroAhead
      rw [hM, h0]
    have hN : numEnd zs i = runTo zs isDig i := by unfold numEnd; rw [hM]
    have hlo := runTo_ge zs isDig i
    have hup := runTo_le zs isDig i (by have := HN.out; omega)
    rw [HN.out] at hup
    have HV := Lib.hid (numVal_eq zs i)
    rw [hE, hN] at HV
    have H0 := Lib.hid h0
    clear hE hN hM h0
    go_enter Tryd.func63, Tryd.ntmps63
    go_wp2_with fail
    refine (minus_any _).mono ?_
    rintro e W1 ⟨v1, rfl, hb1, hk1⟩
    have HK1 := Lib.hid hk1
    have HB1 := Lib.hid hb1
    clear hk1 hb1
    go_wp2_with fail
    refine (HR.out i _ v1 (isC 45) W1 rfl HB1.out HK1.out).mono ?_
    rintro e W2 ⟨rfl, hb2⟩
    have HB2 := Lib.hid (HB1.out.trans (hb2.mono HB1.out.size))
    clear hb2
    rw [H0.out]
    go_wp2_with fail
    refine (digit_any _).mono ?_
    rintro e W3 ⟨v3, rfl, hb3, hk3⟩
    have HK3 := Lib.hid hk3
    have HB3 := Lib.hid (HB2.out.trans (hb3.mono HB2.out.size))
    clear hk3 hb3
    go_wp2_with fail
    refine (HU.out i _ v3 isDig W3 rfl (by omega) HB3.out HK3.out).mono ?_
    rintro e W4 ⟨rfl, hb4⟩
    have HB4 := Lib.hid (HB3.out.trans (hb4.mono HB3.out.size))
    clear hb4
    generalize runTo zs isDig i = E at hlo hup HV ⊢
    by_cases c0 : E - i = 0
    · have t0 : (((E : Int) - (i : Int)) == 0) = true := by simp; omega
      have HV' := Lib.hid (HV.out.trans (numVal_bad E (by simp [c0])))
      clear c0
      go_wp2
      go_ret2
      exact ⟨by rw [HV'.out]; rfl, HB4.out⟩
    have t0 : (((E : Int) - (i : Int)) == 0) = false := by simp; omega
    by_cases c1 : 20 < E - i
    · have HV' := Lib.hid (HV.out.trans (numVal_bad E (by simp [c1])))
      have t1 : decide (20 < (E : Int) - (i : Int)) = true := by simp; omega
      go_wp2
      go_ret2
      exact ⟨by rw [HV'.out]; rfl, HB4.out⟩
    have t1 : decide (20 < (E : Int) - (i : Int)) = false := by simp; omega
    have t1b : ¬ (20 < (E : Int) - (i : Int)) := by omega
    go_wp2_with fail
    refine (letter_any _).mono ?_
    rintro e W5 ⟨v5, rfl, hb5, hk5⟩
    have HK5 := Lib.hid hk5
    have HB5 := Lib.hid (HB4.out.trans (hb5.mono HB4.out.size))
    clear hk5 hb5
    go_wp2_with fail
    refine (HR.out E _ v5 isLet W5 rfl HB5.out HK5.out).mono ?_
    rintro e W6 ⟨rfl, hb6⟩
    have HB6 := Lib.hid (HB5.out.trans (hb6.mono HB5.out.size))
    clear hb6
    cases h1 : stA zs isLet E
    rotate_left
    · have HV' := Lib.hid (HV.out.trans (numVal_bad E (by simp [h1])))
      clear h1
      go_wp2
      go_ret2
      exact ⟨by rw [HV'.out]; rfl, HB6.out⟩
    have H1 := Lib.hid h1
    clear h1
    go_wp2_with fail
    refine (among_any ⟨#[48]⟩ _).mono ?_
    rintro e W7 ⟨v7, rfl, hb7, hk7⟩
    have HK7 : Hid (KindV W7 v7 (isC 48)) := hk7.congr fun c _ _ => by simp [amg, bts, isC]
    have HB7 := Lib.hid (HB6.out.trans (hb7.mono HB6.out.size))
    clear hk7 hb7
    go_wp2_with fail
    refine (HR.out i _ v7 (isC 48) W7 rfl HB7.out HK7.out).mono ?_
    rintro e W8 ⟨rfl, hb8⟩
    have HB8 := Lib.hid (HB7.out.trans (hb8.mono HB7.out.size))
    clear hb8
    cases h2 : stA zs (isC 48) i
    · have HV' := Lib.hid (HV.out.trans (numVal_good E (by rw [H1.out, h2, decide_eq_false c0, decide_eq_false c1]; rfl)))
      clear h2
      go_wp2
      go_ret2
      exact ⟨by rw [HV'.out]; rfl, HB8.out⟩
    · by_cases c2 : 1 < E - i
      · have HV' := Lib.hid (HV.out.trans (numVal_bad E (by simp [h2, c2])))
        have t2 : decide (1 < (E : Int) - i) = true := by simp; omega
        clear h2 c2
        go_wp2
        go_ret2
        exact ⟨by rw [HV'.out]; rfl, HB8.out⟩
      · have HV' := Lib.hid (HV.out.trans (numVal_good E (by rw [H1.out, h2, decide_eq_false c0, decide_eq_false c1, decide_eq_false c2]; rfl)))
        have t2 : decide (1 < (E : Int) - i) = false := by simp; omega
        clear h2 c2
        go_wp2
        go_ret2
        exact ⟨by rw [HV'.out]; rfl, HB8.out⟩
  · have hM : minusTo zs i = (i + 1) := by unfold minusTo; rw [if_pos (by rw [h0])]
    have hE : numBad zs i = (decide (runTo zs isDig (i + 1) - (i + 1) = 0) || decide (20 < runTo zs isDig (i + 1) - (i + 1)) || stA zs isLet (runTo zs isDig (i + 1)) || (stA zs (isC 48) (i + 1) && (true || decide (1 < runTo zs isDig (i + 1) - (i + 1))))) := by
      unfold numBad zeroAhead
      rw [hM, h0]
    have hN : numEnd zs i = runTo zs isDig (i + 1) := by unfold numEnd; rw [hM]
    have hlo := runTo_ge zs isDig (i + 1)
    have hup := runTo_le zs isDig (i + 1) (by have := stA_lt h0; omega)
    rw [HN.out] at hup
    have HV := Lib.hid (numVal_eq zs i)
    rw [hE, hN] at HV
    have H0 := Lib.hid h0
    clear hE hN hM h0
    go_enter Tryd.func63, Tryd.ntmps63
    go_wp2_with fail
    refine (minus_any _).mono ?_
    rintro e W1 ⟨v1, rfl, hb1, hk1⟩
    have HK1 := Lib.hid hk1
    have HB1 := Lib.hid hb1
    clear hk1 hb1
    go_wp2_with fail
    refine (HR.out i _ v1 (isC 45) W1 rfl HB1.out HK1.out).mono ?_
    rintro e W2 ⟨rfl, hb2⟩
    have HB2 := Lib.hid (HB1.out.trans (hb2.mono HB1.out.size))
    clear hb2
    rw [H0.out]
    go_wp2_with fail
    refine (digit_any _).mono ?_
    rintro e W3 ⟨v3, rfl, hb3, hk3⟩
    have HK3 := Lib.hid hk3
    have HB3 := Lib.hid (HB2.out.trans (hb3.mono HB2.out.size))
    clear hk3 hb3
    go_wp2_with fail
    refine (HU.out (i + 1) _ v3 isDig W3 (by omega) (by omega) HB3.out HK3.out).mono ?_
    rintro e W4 ⟨rfl, hb4⟩
    have HB4 := Lib.hid (HB3.out.trans (hb4.mono HB3.out.size))
    clear hb4
    generalize runTo zs isDig (i + 1) = E at hlo hup HV ⊢
    by_cases c0 : E - (i + 1) = 0
    · have t0 : (((E : Int) - ((i : Int) + 1)) == 0) = true := by simp; omega
      have HV' := Lib.hid (HV.out.trans (numVal_bad E (by simp [c0])))
      clear c0
      go_wp2
      go_ret2
      exact ⟨by rw [HV'.out]; rfl, HB4.out⟩
    have t0 : (((E : Int) - ((i : Int) + 1)) == 0) = false := by simp; omega
    by_cases c1 : 20 < E - (i + 1)
    · have HV' := Lib.hid (HV.out.trans (numVal_bad E (by simp [c1])))
      have t1 : decide (20 < (E : Int) - ((i : Int) + 1)) = true := by simp; omega
      go_wp2
      go_ret2
      exact ⟨by rw [HV'.out]; rfl, HB4.out⟩
    have t1 : decide (20 < (E : Int) - ((i : Int) + 1)) = false := by simp; omega
    have t1b : ¬ (20 < (E : Int) - ((i : Int) + 1)) := by omega
    go_wp2_with fail
    refine (letter_any _).mono ?_
    rintro e W5 ⟨v5, rfl, hb5, hk5⟩
    have HK5 := Lib.hid hk5
    have HB5 := Lib.hid (HB4.out.trans (hb5.mono HB4.out.size))
    clear hk5 hb5
    go_wp2_with fail
    refine (HR.out E _ v5 isLet W5 rfl HB5.out HK5.out).mono ?_
    rintro e W6 ⟨rfl, hb6⟩
    have HB6 := Lib.hid (HB5.out.trans (hb6.mono HB5.out.size))
    clear hb6
    cases h1 : stA zs isLet E
    rotate_left
    · have HV' := Lib.hid (HV.out.trans (numVal_bad E (by simp [h1])))
      clear h1
      go_wp2
      go_ret2
      exact ⟨by rw [HV'.out]; rfl, HB6.out⟩
    have H1 := Lib.hid h1
    clear h1
    go_wp2_with fail
    refine (among_any ⟨#[48]⟩ _).mono ?_
    rintro e W7 ⟨v7, rfl, hb7, hk7⟩
    have HK7 : Hid (KindV W7 v7 (isC 48)) := hk7.congr fun c _ _ => by simp [amg, bts, isC]
    have HB7 := Lib.hid (HB6.out.trans (hb7.mono HB6.out.size))
    clear hk7 hb7
    go_wp2_with fail
    refine (HR.out (i + 1) _ v7 (isC 48) W7 (by omega) HB7.out HK7.out).mono ?_
    rintro e W8 ⟨rfl, hb8⟩
    have HB8 := Lib.hid (HB7.out.trans (hb8.mono HB7.out.size))
    clear hb8
    cases h2 : stA zs (isC 48) (i + 1)
    · have HV' := Lib.hid (HV.out.trans (numVal_good E (by rw [H1.out, h2, decide_eq_false c0, decide_eq_false c1]; rfl)))
      clear h2
      go_wp2
      go_ret2
      exact ⟨by rw [HV'.out]; rfl, HB8.out⟩
    · have HV' := Lib.hid (HV.out.trans (numVal_bad E (by simp [h2])))
      clear h2
      go_wp2
      go_ret2
      exact ⟨by rw [HV'.out]; rfl, HB8.out⟩
end Go.Proofs.YtneadcbadnicfaaDoor
