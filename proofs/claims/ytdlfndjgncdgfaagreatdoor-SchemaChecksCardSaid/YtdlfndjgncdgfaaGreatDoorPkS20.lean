/-
  The library's Clone of a text, laid at this translation; small functions of the package schema: among, choose; the library's Index over texts. Conditions: those that each theorem names.
-/
import Derived.Test.YtdlfndjgncdgfaaGreatDoorPkS3
import Derived.Test.YtdlfndjgncdgfaaGreatDoorPkS12
import Derived.Test.YtdlfndjgncdgfaaGreatDoorPkS14
import Derived.Test.YtdlfndjgncdgfaaGreatDoorPkS18
import Derived.Lib.ConvBytes
import Derived.Lib.AtoiErrMem
import Derived.Shelf.Pu.Clone
import Derived.Deep.QuietTactic
import Derived.BigQuiet
namespace Go.Proofs.YtdlfndjgncdgfaaGreatDoor
open Go.ChangeShapes Go.WideShapes Go.ChangeAt Go.RowKit Go.Shelf

theorem begins_any (p : Option Addr) (n cap i : Nat) (x : Int) (zs : List Int) (w : World) (hx : x = i) (hz : Bytes w p zs) (hn : zs.length = n) (hl : n ≤ 281474976710656) (hi : i ≤ n) :
    Calls Tryz.prog 111 #[.slice p n cap, .int .i64 x] w fun e w' => e = .returned (.bool (begins zs i)) ∧ Below w.heap.size w w' := by
  subst hx
  have HR := Lib.hid (fun (j : Nat) (y : Int) v k W hy hb hk => stands_any p n cap j y zs v k W hy (Bytes.below hz (Nat.le_refl _) hb) hn hk hl)
  have HE : Hid (begins zs i = (stA zs isDig i || (stA zs (isC 45) i && stA zs isDig (i + 1)))) := rfl
  generalize begins zs i = r at HE ⊢
  clear hz hn
  cases h1 : stA zs isDig i
  · cases h2 : stA zs (isC 45) i
    · rw [h1, h2] at HE
      have H1 := Lib.hid h1
      have H2 := Lib.hid h2
      clear h1 h2
      go_enter Tryz.func111, Tryz.ntmps111
      go_wp2_with fail
      refine (digit_any _).mono ?_
      rintro e W1 ⟨v1, rfl, hb1, hk1⟩
      have HK1 := Lib.hid hk1
      have HB1 := Lib.hid hb1
      clear hk1 hb1
      go_wp2_with fail
      refine (HR.out i _ v1 isDig W1 rfl HB1.out HK1.out).mono ?_
      rintro e W2 ⟨rfl, hb2⟩
      have HB2 := Lib.hid (HB1.out.trans (hb2.mono HB1.out.size))
      clear hb2
      rw [H1.out]
      go_wp2_with fail
      refine (minus_any _).mono ?_
      rintro e W3 ⟨v3, rfl, hb3, hk3⟩
      have HK3 := Lib.hid hk3
      have HB3 := Lib.hid (HB2.out.trans (hb3.mono HB2.out.size))
      clear hk3 hb3
      go_wp2_with fail
      refine (HR.out i _ v3 (isC 45) W3 rfl HB3.out HK3.out).mono ?_
      rintro e W4 ⟨rfl, hb4⟩
      have HB4 := Lib.hid (HB3.out.trans (hb4.mono HB3.out.size))
      clear hb4
      rw [H2.out]
      go_wp2
      go_ret
      exact ⟨ret_bool (by rw [HE.out]; rfl), HB4.out⟩
    · rw [h1, h2] at HE
      have H1 := Lib.hid h1
      have H2 := Lib.hid h2
      clear h1 h2
      go_enter Tryz.func111, Tryz.ntmps111
      go_wp2_with fail
      refine (digit_any _).mono ?_
      rintro e W1 ⟨v1, rfl, hb1, hk1⟩
      have HK1 := Lib.hid hk1
      have HB1 := Lib.hid hb1
      clear hk1 hb1
      go_wp2_with fail
      refine (HR.out i _ v1 isDig W1 rfl HB1.out HK1.out).mono ?_
      rintro e W2 ⟨rfl, hb2⟩
      have HB2 := Lib.hid (HB1.out.trans (hb2.mono HB1.out.size))
      clear hb2
      rw [H1.out]
      go_wp2_with fail
      refine (minus_any _).mono ?_
      rintro e W3 ⟨v3, rfl, hb3, hk3⟩
      have HK3 := Lib.hid hk3
      have HB3 := Lib.hid (HB2.out.trans (hb3.mono HB2.out.size))
      clear hk3 hb3
      go_wp2_with fail
      refine (HR.out i _ v3 (isC 45) W3 rfl HB3.out HK3.out).mono ?_
      rintro e W4 ⟨rfl, hb4⟩
      have HB4 := Lib.hid (HB3.out.trans (hb4.mono HB3.out.size))
      clear hb4
      rw [H2.out]
      go_wp2_with fail
      refine (digit_any _).mono ?_
      rintro e W5 ⟨v5, rfl, hb5, hk5⟩
      have HK5 := Lib.hid hk5
      have HB5 := Lib.hid (HB4.out.trans (hb5.mono HB4.out.size))
      clear hk5 hb5
      go_wp2_with fail
      refine (HR.out (i + 1) _ v5 isDig W5 (by omega) HB5.out HK5.out).mono ?_
      rintro e W6 ⟨rfl, hb6⟩
      have HB6 := Lib.hid (HB5.out.trans (hb6.mono HB5.out.size))
      clear hb6
      generalize stA zs isDig (i + 1) = r2 at HE ⊢
      go_wp2
      go_ret
      exact ⟨ret_bool (by rw [HE.out]; simp), HB6.out⟩
  · rw [h1] at HE
    have H1 := Lib.hid h1
    clear h1
    go_enter Tryz.func111, Tryz.ntmps111
    go_wp2_with fail
    refine (digit_any _).mono ?_
    rintro e W1 ⟨v1, rfl, hb1, hk1⟩
    have HK1 := Lib.hid hk1
    have HB1 := Lib.hid hb1
    clear hk1 hb1
    go_wp2_with fail
    refine (HR.out i _ v1 isDig W1 rfl HB1.out HK1.out).mono ?_
    rintro e W2 ⟨rfl, hb2⟩
    have HB2 := Lib.hid (HB1.out.trans (hb2.mono HB1.out.size))
    clear hb2
    rw [H1.out]
    go_wp2
    go_ret
    exact ⟨ret_bool (by rw [HE.out]; rfl), HB2.out⟩
def numVal (zs : List Int) (i : Nat) : Value := if numBad zs i = true then .tuple #[.int .i64 0, .bool false] else .tuple #[.int .i64 (numEnd zs i : Nat), .bool true]
theorem numVal_eq (zs : List Int) (i : Nat) : numVal zs i = if numBad zs i = true then .tuple #[.int .i64 0, .bool false] else .tuple #[.int .i64 (numEnd zs i : Nat), .bool true] := rfl
theorem numVal_bad {c : Bool} (E : Nat) (h : c = true) : (if c = true then Value.tuple #[.int .i64 0, .bool false] else .tuple #[.int .i64 (E : Nat), .bool true]) = .tuple #[.int .i64 0, .bool false] := if_pos h
theorem numVal_good {c : Bool} (E : Nat) (h : c = false) : (if c = true then Value.tuple #[.int .i64 0, .bool false] else .tuple #[.int .i64 (E : Nat), .bool true]) = .tuple #[.int .i64 (E : Nat), .bool true] := if_neg (by rw [h]; decide)
set_option maxHeartbeats 800000 in
theorem number_any (p : Option Addr) (n cap i : Nat) (x : Int) (zs : List Int) (w : World) (hx : x = i) (hz : Bytes w p zs) (hn : zs.length = n) (hl : n ≤ 281474976710656) (hi : i ≤ n) :
    Calls Tryz.prog 112 #[.slice p n cap, .int .i64 x] w fun e w' => e = .returned (numVal zs i) ∧ Below w.heap.size w w' := by
  subst hx
  have HR := Lib.hid (fun (j : Nat) (y : Int) v k W hy hb hk => stands_any p n cap j y zs v k W hy (Bytes.below hz (Nat.le_refl _) hb) hn hk hl)
  have HU := Lib.hid (fun (j : Nat) (y : Int) v k W hy hj hb hk => run_any p n cap j y zs v k W hy (Bytes.below hz (Nat.le_refl _) hb) hn hk hl hj)
  have HN := Lib.hid hn
  clear hz hn
  cases h0 : stA zs (isC 45) i
  · have hM : minusTo zs i = i := by unfold minusTo; rw [if_neg (by rw [h0]; decide)]
    have hE : numBad zs i = (decide (runTo zs isDig i - i = 0) || decide (20 < runTo zs isDig i - i) || stA zs isLet (runTo zs isDig i) || (stA zs (isC 48) i && (false || decide (1 < runTo zs isDig i - i)))) := by
      unfold numBad zeroAhead
      rw [hM, h0]
    have hN : numEnd zs i = runTo zs isDig i := by unfold numEnd; rw [hM]
    have hlo := runTo_ge zs isDig i
    have hup := runTo_le zs isDig i (by have := HN.out; omega)
    rw [HN.out] at hup
    have HV := Lib.hid (numVal_eq zs i)
    rw [hE, hN] at HV
    have H0 := Lib.hid h0
    clear hE hN hM h0
    go_enter Tryz.func112, Tryz.ntmps112
    go_wp2_with fail
    refine (minus_any _).mono ?_
    rintro e W1 ⟨v1, rfl, hb1, hk1⟩
    have HK1 := Lib.hid hk1
    have HB1 := Lib.hid hb1
    clear hk1 hb1
    go_wp2_with fail
    refine (HR.out i _ v1 (isC 45) W1 rfl HB1.out HK1.out).mono ?_
    rintro e W2 ⟨rfl, hb2⟩
    have HB2 := Lib.hid (HB1.out.trans (hb2.mono HB1.out.size))
    clear hb2
    rw [H0.out]
    go_wp2_with fail
    refine (digit_any _).mono ?_
    rintro e W3 ⟨v3, rfl, hb3, hk3⟩
    have HK3 := Lib.hid hk3
    have HB3 := Lib.hid (HB2.out.trans (hb3.mono HB2.out.size))
    clear hk3 hb3
    go_wp2_with fail
    refine (HU.out i _ v3 isDig W3 rfl (by omega) HB3.out HK3.out).mono ?_
    rintro e W4 ⟨rfl, hb4⟩
    have HB4 := Lib.hid (HB3.out.trans (hb4.mono HB3.out.size))
    clear hb4
    generalize runTo zs isDig i = E at hlo hup HV ⊢
    by_cases c0 : E - i = 0
    · have t0 : (((E : Int) - (i : Int)) == 0) = true := by simp; omega
      have HV' := Lib.hid (HV.out.trans (numVal_bad E (by simp [c0])))
      clear c0
      go_wp2
      go_ret2
      exact ⟨by rw [HV'.out]; rfl, HB4.out⟩
    have t0 : (((E : Int) - (i : Int)) == 0) = false := by simp; omega
    by_cases c1 : 20 < E - i
    · have HV' := Lib.hid (HV.out.trans (numVal_bad E (by simp [c1])))
      have t1 : decide (20 < (E : Int) - (i : Int)) = true := by simp; omega
      go_wp2
      go_ret2
      exact ⟨by rw [HV'.out]; rfl, HB4.out⟩
    have t1 : decide (20 < (E : Int) - (i : Int)) = false := by simp; omega
    have t1b : ¬ (20 < (E : Int) - (i : Int)) := by omega
    go_wp2_with fail
    refine (letter_any _).mono ?_
    rintro e W5 ⟨v5, rfl, hb5, hk5⟩
    have HK5 := Lib.hid hk5
    have HB5 := Lib.hid (HB4.out.trans (hb5.mono HB4.out.size))
    clear hk5 hb5
    go_wp2_with fail
    refine (HR.out E _ v5 isLet W5 rfl HB5.out HK5.out).mono ?_
    rintro e W6 ⟨rfl, hb6⟩
    have HB6 := Lib.hid (HB5.out.trans (hb6.mono HB5.out.size))
    clear hb6
    cases h1 : stA zs isLet E
    rotate_left
    · have HV' := Lib.hid (HV.out.trans (numVal_bad E (by simp [h1])))
      clear h1
      go_wp2
      go_ret2
      exact ⟨by rw [HV'.out]; rfl, HB6.out⟩
    have H1 := Lib.hid h1
    clear h1
    go_wp2_with fail
    refine (among_any ⟨#[48]⟩ _).mono ?_
    rintro e W7 ⟨v7, rfl, hb7, hk7⟩
    have HK7 : Hid (KindV W7 v7 (isC 48)) := hk7.congr fun c _ _ => by simp [amg, bts, isC]
    have HB7 := Lib.hid (HB6.out.trans (hb7.mono HB6.out.size))
    clear hk7 hb7
    go_wp2_with fail
    refine (HR.out i _ v7 (isC 48) W7 rfl HB7.out HK7.out).mono ?_
    rintro e W8 ⟨rfl, hb8⟩
    have HB8 := Lib.hid (HB7.out.trans (hb8.mono HB7.out.size))
    clear hb8
    cases h2 : stA zs (isC 48) i
    · have HV' := Lib.hid (HV.out.trans (numVal_good E (by rw [H1.out, h2, decide_eq_false c0, decide_eq_false c1]; rfl)))
      clear h2
      go_wp2
      go_ret2
      exact ⟨by rw [HV'.out]; rfl, HB8.out⟩
    · by_cases c2 : 1 < E - i
      · have HV' := Lib.hid (HV.out.trans (numVal_bad E (by simp [h2, c2])))
        have t2 : decide (1 < (E : Int) - i) = true := by simp; omega
        clear h2 c2
        go_wp2
        go_ret2
        exact ⟨by rw [HV'.out]; rfl, HB8.out⟩
      · have HV' := Lib.hid (HV.out.trans (numVal_good E (by rw [H1.out, h2, decide_eq_false c0, decide_eq_false c1, decide_eq_false c2]; rfl)))
        have t2 : decide (1 < (E : Int) - i) = false := by simp; omega
        clear h2 c2
        go_wp2
        go_ret2
        exact ⟨by rw [HV'.out]; rfl, HB8.out⟩
  · have hM : minusTo zs i = (i + 1) := by unfold minusTo; rw [if_pos (by rw [h0])]
    have hE : numBad zs i = (decide (runTo zs isDig (i + 1) - (i + 1) = 0) || decide (20 < runTo zs isDig (i + 1) - (i + 1)) || stA zs isLet (runTo zs isDig (i + 1)) || (stA zs (isC 48) (i + 1) && (true || decide (1 < runTo zs isDig (i + 1) - (i + 1))))) := by
      unfold numBad zeroAhead
      rw [hM, h0]
    have hN : numEnd zs i = runTo zs isDig (i + 1) := by unfold numEnd; rw [hM]
    have hlo := runTo_ge zs isDig (i + 1)
    have hup := runTo_le zs isDig (i + 1) (by have := stA_lt h0; omega)
    rw [HN.out] at hup
    have HV := Lib.hid (numVal_eq zs i)
    rw [hE, hN] at HV
    have H0 := Lib.hid h0
    clear hE hN hM h0
    go_enter Tryz.func112, Tryz.ntmps112
    go_wp2_with fail
    refine (minus_any _).mono ?_
    rintro e W1 ⟨v1, rfl, hb1, hk1⟩
    have HK1 := Lib.hid hk1
    have HB1 := Lib.hid hb1
    clear hk1 hb1
    go_wp2_with fail
    refine (HR.out i _ v1 (isC 45) W1 rfl HB1.out HK1.out).mono ?_
    rintro e W2 ⟨rfl, hb2⟩
    have HB2 := Lib.hid (HB1.out.trans (hb2.mono HB1.out.size))
    clear hb2
    rw [H0.out]
    go_wp2_with fail
    refine (digit_any _).mono ?_
    rintro e W3 ⟨v3, rfl, hb3, hk3⟩
    have HK3 := Lib.hid hk3
    have HB3 := Lib.hid (HB2.out.trans (hb3.mono HB2.out.size))
    clear hk3 hb3
    go_wp2_with fail
    refine (HU.out (i + 1) _ v3 isDig W3 (by omega) (by omega) HB3.out HK3.out).mono ?_
    rintro e W4 ⟨rfl, hb4⟩
    have HB4 := Lib.hid (HB3.out.trans (hb4.mono HB3.out.size))
    clear hb4
    generalize runTo zs isDig (i + 1) = E at hlo hup HV ⊢
    by_cases c0 : E - (i + 1) = 0
    · have t0 : (((E : Int) - ((i : Int) + 1)) == 0) = true := by simp; omega
      have HV' := Lib.hid (HV.out.trans (numVal_bad E (by simp [c0])))
      clear c0
      go_wp2
      go_ret2
      exact ⟨by rw [HV'.out]; rfl, HB4.out⟩
    have t0 : (((E : Int) - ((i : Int) + 1)) == 0) = false := by simp; omega
    by_cases c1 : 20 < E - (i + 1)
    · have HV' := Lib.hid (HV.out.trans (numVal_bad E (by simp [c1])))
      have t1 : decide (20 < (E : Int) - ((i : Int) + 1)) = true := by simp; omega
      go_wp2
      go_ret2
      exact ⟨by rw [HV'.out]; rfl, HB4.out⟩
    have t1 : decide (20 < (E : Int) - ((i : Int) + 1)) = false := by simp; omega
    have t1b : ¬ (20 < (E : Int) - ((i : Int) + 1)) := by omega
    go_wp2_with fail
    refine (letter_any _).mono ?_
    rintro e W5 ⟨v5, rfl, hb5, hk5⟩
    have HK5 := Lib.hid hk5
    have HB5 := Lib.hid (HB4.out.trans (hb5.mono HB4.out.size))
    clear hk5 hb5
    go_wp2_with fail
    refine (HR.out E _ v5 isLet W5 rfl HB5.out HK5.out).mono ?_
    rintro e W6 ⟨rfl, hb6⟩
    have HB6 := Lib.hid (HB5.out.trans (hb6.mono HB5.out.size))
    clear hb6
    cases h1 : stA zs isLet E
    rotate_left
    · have HV' := Lib.hid (HV.out.trans (numVal_bad E (by simp [h1])))
      clear h1
      go_wp2
      go_ret2
      exact ⟨by rw [HV'.out]; rfl, HB6.out⟩
    have H1 := Lib.hid h1
    clear h1
    go_wp2_with fail
    refine (among_any ⟨#[48]⟩ _).mono ?_
    rintro e W7 ⟨v7, rfl, hb7, hk7⟩
    have HK7 : Hid (KindV W7 v7 (isC 48)) := hk7.congr fun c _ _ => by simp [amg, bts, isC]
    have HB7 := Lib.hid (HB6.out.trans (hb7.mono HB6.out.size))
    clear hk7 hb7
    go_wp2_with fail
    refine (HR.out (i + 1) _ v7 (isC 48) W7 (by omega) HB7.out HK7.out).mono ?_
    rintro e W8 ⟨rfl, hb8⟩
    have HB8 := Lib.hid (HB7.out.trans (hb8.mono HB7.out.size))
    clear hb8
    cases h2 : stA zs (isC 48) (i + 1)
    · have HV' := Lib.hid (HV.out.trans (numVal_good E (by rw [H1.out, h2, decide_eq_false c0, decide_eq_false c1]; rfl)))
      clear h2
      go_wp2
      go_ret2
      exact ⟨by rw [HV'.out]; rfl, HB8.out⟩
    · have HV' := Lib.hid (HV.out.trans (numVal_bad E (by simp [h2])))
      clear h2
      go_wp2
      go_ret2
      exact ⟨by rw [HV'.out]; rfl, HB8.out⟩
end Go.Proofs.YtdlfndjgncdgfaaGreatDoor
namespace Go.Proofs.YtdlfndjgncdgfaaGreatDoor
open Go.ChangeShapes Go.WideShapes Go.ChangeAt Go.RowKit Go.Shelf

def ErrV (w : World) : Prop := ∃ t v, w.cell? ⟨4, 0, none⟩ = some (.iface t v)
theorem ErrV.later {w w' : World} (h : ErrV w) (hb : Below w.heap.size w w') : ErrV w' := by
  obtain ⟨t, v, h⟩ := h
  exact ⟨t, v, (hb.cell (p := ⟨4, 0, none⟩) (World.block_lt_of_cell? _ _ h)).trans h⟩
def numR : Option Nat → Value
  | none => .tuple #[.int .u64 0, .bool false]
  | some n => .tuple #[.int .u64 (n : Nat), .bool true]
theorem minus_prefix (s : ByteArray) : Lib.hasPrefix s.data.toList (ByteArray.mk #[45]).data.toList = stA (bts s) (isC 45) 0 := by
  unfold Lib.hasPrefix bts stA
  cases s.data.toList with
  | nil => simp [List.isPrefixOf]
  | cons a r =>
    simp only [List.map_cons, List.length_cons, List.getD_cons_zero, isC]
    rw [decide_eq_true (by omega), Bool.true_and]
    simp only [List.isPrefixOf, Bool.and_true]
    rw [Bool.eq_iff_iff, beq_iff_eq, decide_eq_true_iff, ← UInt8.toNat_inj]
    constructor
    · intro h; rw [← h]; rfl
    · intro h
      have : a.toNat = 45 := by omega
      rw [this]; rfl
theorem minus_trim (s : ByteArray) : (Lib.trimPrefix s.data.toList (ByteArray.mk #[45]).data.toList).map (fun b => (b.toNat : Int)) = digs (bts s) := by
  unfold Lib.trimPrefix digs
  rw [minus_prefix]
  split
  · simp [bts]
  · rfl
theorem trim_size (s p : List UInt8) : (Lib.trimPrefix s p).length ≤ s.length := by
  unfold Lib.trimPrefix
  split <;> simp
theorem parse_digs (s : ByteArray) (h : goodN (bts s) = true) :
    Lib.parseUintB 64 (Lib.trimPrefix s.data.toList (ByteArray.mk #[45]).data.toList) = if decF 0 (digs (bts s)) ≤ maxU then .ok (decF 0 (digs (bts s))) else .range := by
  obtain ⟨h1, h2⟩ := good_digs h
  rw [← minus_trim] at h1 h2 ⊢
  refine parseUintB_dec _ (fun he => h1 (by rw [he]; rfl)) (fun b hb => ?_)
  have := h2 _ (List.mem_map_of_mem hb)
  omega
theorem sized_iff (size : Int) : sizedB size = true ↔ (size = 1 ∨ size = 2 ∨ size = 4 ∨ size = 8) := by unfold sizedB; rw [decide_eq_true_iff]
theorem numV_bad1 {zs : List Int} {size : Int} {sign : Bool} (h : numBad zs 0 = true) : numV zs size sign = none := by
  unfold numV goodN
  rw [if_neg (by rw [h]; rintro ⟨h, _⟩; cases h)]
theorem numV_bad2 {zs : List Int} {size : Int} {sign : Bool} (h : numEnd zs 0 ≠ zs.length) : numV zs size sign = none := by
  unfold numV goodN
  rw [if_neg (by rw [decide_eq_false h, Bool.and_false]; rintro ⟨h, _⟩; cases h)]
theorem numV_bad3 {zs : List Int} {size : Int} {sign : Bool} (h : ¬ (size = 1 ∨ size = 2 ∨ size = 4 ∨ size = 8)) : numV zs size sign = none := by
  unfold numV
  rw [if_neg (fun hh => h ((sized_iff size).1 hh.2.1))]
theorem numV_bad4 {zs : List Int} {size : Int} {sign : Bool} (h : ¬ decF 0 (digs zs) ≤ maxU) : numV zs size sign = none := by
  unfold numV
  rw [if_neg (fun hh => h hh.2.2.1)]
theorem numV_bad5 {zs : List Int} {size : Int} {sign : Bool} (h : fitsB (decF 0 (digs zs)) (stA zs (isC 45) 0) size sign = false) : numV zs size sign = none := by
  unfold numV
  rw [if_neg (fun hh => by have := hh.2.2.2; rw [h] at this; cases this)]
theorem numV_yes {zs : List Int} {size : Int} {sign : Bool} (h1 : numBad zs 0 = false) (h2 : numEnd zs 0 = zs.length) (h3 : size = 1 ∨ size = 2 ∨ size = 4 ∨ size = 8) (h4 : decF 0 (digs zs) ≤ maxU) (h5 : fitsB (decF 0 (digs zs)) (stA zs (isC 45) 0) size sign = true) :
    numV zs size sign = some (if stA zs (isC 45) 0 = true then (18446744073709551616 - decF 0 (digs zs)) % 18446744073709551616 else decF 0 (digs zs)) := by
  unfold numV
  rw [if_pos ⟨by unfold goodN; rw [h1, decide_eq_true h2]; rfl, (sized_iff size).2 h3, h4, h5⟩]
theorem below_bytes {B : Nat} {w W : World} (h : Below B w W) (hB : B ≤ W.heap.size) (e : TypeId) (s : ByteArray) : Below B w (Lib.bytesWorld W e s) := h.trans ((Lib.bytesWorld_below W e s).mono hB)
theorem bytes_new (w : World) (s : ByteArray) : Bytes (Lib.bytesWorld w 5 s) (some ⟨w.heap.size, 0, none⟩) (bts s) := by
  refine ⟨bts_bd s, fun _ => ⟨w.heap.size, 0, rfl, by rw [Lib.bytesWorld_size]; omega, fun i hi => ?_⟩⟩
  rw [bts_length] at hi
  rw [Nat.zero_add, Lib.bytesWorld_cell w _ s i hi]
  simp [bts, List.getD, hi]
theorem lexNumber_bad (s : ByteArray) (size : Int) (sign : Bool) (w : World) (hs : s.size ≤ 281474976710656) (h : numBad (bts s) 0 = true ∨ (numBad (bts s) 0 = false ∧ (numEnd (bts s) 0 ≠ s.size ∨ (numEnd (bts s) 0 = s.size ∧ ¬ (size = 1 ∨ size = 2 ∨ size = 4 ∨ size = 8))))) :
    Calls Tryz.prog 147 #[.string s, .int .i64 size, .bool sign] w fun e w' => e = .returned (.tuple #[.int .u64 0, .bool false]) ∧ Below w.heap.size w w' := by
  have kc := fun W => Lib.run_convert_string_bytes (P := Tryz.prog) W 9 22 5 s Tryz.underlying9 Tryz.underlying22 Tryz.underlying5
  have H := Lib.hid h
  clear h
  go_enter Tryz.func147, Tryz.ntmps147
  go_wp2_with fail
  refine (number_any _ s.size _ 0 _ (bts s) _ rfl (bytes_new w s) (bts_length s) hs (Nat.zero_le _)).mono ?_
  rintro e W1 ⟨rfl, hb1⟩
  have HB1 := Lib.hid ((below_bytes (Below.refl _ _) (Nat.le_refl _) 5 s).trans (hb1.mono (by rw [Lib.bytesWorld_size]; omega)))
  clear hb1
  rcases H.out with h | ⟨h, h2⟩
  · rw [show numVal (bts s) 0 = _ from if_pos h]
    clear h
    go_wp2
    go_ret2
    exact ⟨rfl, HB1.out⟩
  · rw [show numVal (bts s) 0 = _ from if_neg (by rw [h]; decide)]
    generalize numEnd (bts s) 0 = E at h2
    rcases h2 with h2 | ⟨h2, h3⟩
    · have t : ((E : Int) != (s.size : Int)) = true := by simp; omega
      clear h h2
      go_wp2
      go_ret2
      exact ⟨rfl, HB1.out⟩
    · have t : ((E : Int) != (s.size : Int)) = false := by simp; omega
      have H3 := Lib.hid h3
      clear h h2 h3
      go_wp2_with fail
      refine (sized_no size _ H3.out).mono ?_
      rintro e W2 ⟨rfl, rfl⟩
      go_wp2
      go_ret2
      exact ⟨rfl, HB1.out⟩
theorem digs_str (s : ByteArray) (h : goodN (bts s) = true) : ∃ d : ByteArray, (⟨(Lib.trimPrefix s.data.toList (ByteArray.mk #[45]).data.toList).toArray⟩ : ByteArray) = d ∧ d.size ≤ s.size ∧ Lib.parseUintB 64 d.data.toList = if decF 0 (digs (bts s)) ≤ maxU then .ok (decF 0 (digs (bts s))) else .range := by
  refine ⟨_, rfl, ?_, ?_⟩
  · have := trim_size s.data.toList (ByteArray.mk #[45]).data.toList
    have e1 : s.data.toList.length = s.size := by simp
    simp only [ByteArray.size, List.size_toArray]
    simp only [ByteArray.size] at e1
    omega
  · exact parse_digs s h
theorem neg_wrap (V : Nat) (h : (V : Int) ≤ 18446744073709551615) : IntKind.u64.wrap (-(V : Int)) = (((18446744073709551616 - V) % 18446744073709551616 : Nat) : Int) := by
  rw [IntKind.wrap_u64]
  omega
set_option maxHeartbeats 800000 in
theorem lexNumber_good (s : ByteArray) (size : Int) (sign : Bool) (w : World) (hE : ErrV w) (hs : s.size ≤ 281474976710656) (h1 : numBad (bts s) 0 = false) (h2 : numEnd (bts s) 0 = s.size) (h3 : size = 1 ∨ size = 2 ∨ size = 4 ∨ size = 8) :
    Calls Tryz.prog 147 #[.string s, .int .i64 size, .bool sign] w fun e w' => e = .returned (numR (numV (bts s) size sign)) ∧ Below w.heap.size w w' := by
  have kc := fun W => Lib.run_convert_string_bytes (P := Tryz.prog) W 9 22 5 s Tryz.underlying9 Tryz.underlying22 Tryz.underlying5
  obtain ⟨d, hd, hds, hp⟩ := digs_str s (by unfold goodN; rw [h1, decide_eq_true (by rw [h2, bts_length])]; rfl)
  have HY := Lib.hid (fun h4 h5 => numV_yes (sign := sign) h1 (by rw [h2, bts_length]) h3 h4 h5)
  have HB4 := Lib.hid (fun h => numV_bad4 (zs := bts s) (size := size) (sign := sign) h)
  have HB5 := Lib.hid (fun h => numV_bad5 (zs := bts s) (size := size) (sign := sign) h)
  have HC := Lib.hid (Tryz.strings_CutPrefix s (ByteArray.mk #[45]))
  have HM := Lib.hid (minus_prefix s)
  have HNV : Hid (numVal (bts s) 0 = .tuple #[.int .i64 (numEnd (bts s) 0 : Nat), .bool true]) := if_neg (by rw [h1]; decide)
  rw [h2] at HNV
  have H3 := Lib.hid h3
  have HD := Lib.hid hd
  have HP := Lib.hid hp
  have HEV := Lib.hid hE
  generalize numV (bts s) size sign = r at HY HB4 HB5 ⊢
  clear h1 h2 h3 hd hp hE
  go_enter Tryz.func147, Tryz.ntmps147
  go_wp2_with fail
  refine (number_any _ s.size _ 0 _ (bts s) _ rfl (bytes_new w s) (bts_length s) hs (Nat.zero_le _)).mono ?_
  rintro e W1 ⟨rfl, hb1⟩
  have HB1 := Lib.hid ((below_bytes (Below.refl _ _) (Nat.le_refl _) 5 s).trans (hb1.mono (by rw [Lib.bytesWorld_size]; omega)))
  clear hb1
  rw [HNV.out]
  have t : ((s.size : Int) != (s.size : Int)) = false := by simp
  go_wp2_with fail
  refine (sized_yes size _ H3.out).mono ?_
  rintro e W2 ⟨rfl, rfl⟩
  go_wp2_with fail
  refine (HC.out W1).mono ?_
  rintro e W3 ⟨rfl, rfl⟩
  rw [HM.out, HD.out]
  generalize stA (bts s) (isC 45) 0 = b at HY HB5 ⊢
  generalize decF 0 (digs (bts s)) = V at HY HB4 HB5 HP
  by_cases hV : V ≤ maxU
  · have hP := HP.out
    rw [if_pos hV] at hP
    have HP' := Lib.hid hP
    have HV := Lib.hid hV
    have hv1 : (V : Int) ≤ 18446744073709551615 := Int.ofNat_le.2 hV
    clear hV hP
    go_wp2_with fail
    refine (Tryz.strconv_ParseUint_10_at64_ok d (by omega) V HP'.out W3).mono ?_
    rintro e W4 ⟨rfl, hw⟩
    have HB4' : Hid (Below w.heap.size w W4) := by
      rcases hw with rfl | rfl
      · exact HB1.out
      · exact below_bytes HB1.out HB1.out.size _ _
    clear hw
    go_wp2_with fail
    refine (fits_any V b size sign _ (by omega) H3.out).mono ?_
    rintro e W5 ⟨rfl, rfl⟩
    cases hf : fitsB (V : Int) b size sign
    · have HR := Lib.hid (HB5.out hf)
      clear hf
      go_wp2
      go_ret2
      exact ⟨by rw [HR.out]; rfl, HB4'.out⟩
    · have HR := Lib.hid (HY.out HV.out hf)
      clear hf
      cases b
      · rw [if_neg (by decide)] at HR
        go_wp2
        go_ret2
        exact ⟨by rw [HR.out]; rfl, HB4'.out⟩
      · rw [if_pos rfl] at HR
        go_wp2
        go_ret2
        exact ⟨(ret_int_bool (neg_wrap V hv1)).trans (by rw [HR.out]; rfl), HB4'.out⟩
  · have hP := HP.out
    rw [if_neg hV] at hP
    have HP' := Lib.hid hP
    have HR := Lib.hid (HB4.out hV)
    obtain ⟨te, ev, hev⟩ := HEV.out.later HB1.out
    have HX := Lib.hid hev
    clear hV hP hev
    go_wp2_with fail
    refine (Tryz.strconv_ParseUint_10_at64_range d (by omega) HP'.out _ W3 HX.out (.inr ⟨te, ev, rfl⟩)).mono ?_
    rintro e W4 ⟨N, rfl, hN, hN2, hb⟩
    clear hN hN2
    go_wp2
    go_ret2
    exact ⟨by rw [HR.out]; rfl, HB1.out.trans (hb.mono HB1.out.size)⟩
theorem lexNumber_any (s : ByteArray) (size : Int) (sign : Bool) (w : World) (hE : ErrV w) (hs : s.size ≤ 281474976710656) :
    Calls Tryz.prog 147 #[.string s, .int .i64 size, .bool sign] w fun e w' => e = .returned (numR (numV (bts s) size sign)) ∧ Below w.heap.size w w' := by
  cases h1 : numBad (bts s) 0
  · by_cases h2 : numEnd (bts s) 0 = s.size
    · by_cases h3 : size = 1 ∨ size = 2 ∨ size = 4 ∨ size = 8
      · exact lexNumber_good s size sign w hE hs h1 h2 h3
      · rw [numV_bad3 h3]
        exact lexNumber_bad s size sign w hs (.inr ⟨h1, .inr ⟨h2, h3⟩⟩)
    · rw [numV_bad2 (by rw [bts_length]; exact h2)]
      exact lexNumber_bad s size sign w hs (.inr ⟨h1, .inl h2⟩)
  · rw [numV_bad1 h1]
    exact lexNumber_bad s size sign w hs (.inl h1)
end Go.Proofs.YtdlfndjgncdgfaaGreatDoor
namespace Go.Proofs.YtdlfndjgncdgfaaGreatDoor
open Go.Proofs Go.Shelf
def Tryz.cloneRen : Go.Shelf.Ren := ⟨fun | 25 => 124 | n => n, fun | 9 => 9 | 3 => 3 | 4 => 4 | 5 => 5 | 37 => 22 | 0 => 0 | 47 => 201 | n => n, fun n => n⟩
theorem Tryz.cloneLaid : Go.Proofs.LaysPu.n25 Tryz.prog Tryz.cloneRen := {
  mixed := by kernel_rfl
  f25 := Tryz.func124.trans (congrArg some (by kernel_rfl))
  t0 := Tryz.underlying0
  a0 := Tryz.isAgg0
  z0 := Tryz.sizeOf0
  v0 := Tryz.zeroValue0
  i0 := by kernel_rfl
  t3 := Tryz.underlying3
  a3 := Tryz.isAgg3
  z3 := Tryz.sizeOf3
  v3 := Tryz.zeroValue3
  i3 := by kernel_rfl
  t4 := Tryz.underlying4
  a4 := Tryz.isAgg4
  z4 := Tryz.sizeOf4
  v4 := Tryz.zeroValue4
  i4 := by kernel_rfl
  t5 := Tryz.underlying5
  a5 := Tryz.isAgg5
  z5 := Tryz.sizeOf5
  v5 := Tryz.zeroValue5
  i5 := by kernel_rfl
  t9 := Tryz.underlying9
  a9 := Tryz.isAgg9
  z9 := Tryz.sizeOf9
  v9 := Tryz.zeroValue9
  i9 := by kernel_rfl
  t37 := Tryz.underlying22
  a37 := Tryz.isAgg22
  z37 := Tryz.sizeOf22
  v37 := Tryz.zeroValue22
  i37 := by kernel_rfl
  t47 := Tryz.underlying201
  a47 := Tryz.isAgg201
  z47 := Tryz.sizeOf201
  v47 := Tryz.zeroValue201
  i47 := by kernel_rfl }
open Go.ChangeShapes Go.WideShapes Go.ChangeAt Go.RowKit
theorem clone_any (s : ByteArray) (w : World) (hs : s.size ≤ 281474976710656) : Calls Tryz.prog 87 #[.string s] w fun e w' => e = .returned (.string s) ∧ Below w.heap.size w w' := by
  have h := AnyPu.stringslite_Clone Tryz.cloneLaid s w hs
  have H := Lib.hid (show Calls Tryz.prog 124 #[.string s] w _ from h)
  clear h
  go_enter Tryz.func87, Tryz.ntmps87
  go_wp2_with fail
  refine H.out.mono ?_
  rintro e w' ⟨rfl, hb⟩
  have HB := Lib.hid hb
  clear hb
  go_wp2
  go_ret
  exact ⟨rfl, HB.out⟩
theorem samong_any (a b : Int) (c : Bool) (hc : decide (0 ≤ a ∧ a < b) = c) (w : World) : Calls Tryz.prog 25 #[.int .i64 a, .int .i64 b] w fun e w' => e = .returned (.bool c) ∧ w = w' := by
  by_cases h0 : 0 ≤ a
  · by_cases h1 : a < b
    · obtain rfl : c = true := by rw [← hc]; exact decide_eq_true ⟨h0, h1⟩
      clear hc
      go_enter Tryz.func25, Tryz.ntmps25
      go_wp2
      go_ret
      exact ⟨rfl, rfl⟩
    · obtain rfl : c = false := by rw [← hc]; exact decide_eq_false fun h => h1 h.2
      clear hc
      go_enter Tryz.func25, Tryz.ntmps25
      go_wp2
      go_ret
      exact ⟨rfl, rfl⟩
  · have hf : c = false := by rw [← hc]; exact decide_eq_false fun h => h0 h.1
    subst hf
    clear hc
    go_enter Tryz.func25, Tryz.ntmps25
    go_wp2
    go_ret
    exact ⟨rfl, rfl⟩
theorem str_beq (a b : ByteArray) : (a.toList == b.toList) = decide (a = b) := by
  rw [ByteArray.toList_eq, ByteArray.toList_eq, Bool.eq_iff_iff, beq_iff_eq, decide_eq_true_iff]
  refine ⟨fun h => ?_, fun h => by rw [h]⟩
  obtain ⟨⟨a⟩⟩ := a
  obtain ⟨⟨b⟩⟩ := b
  simp only at h
  rw [h]
theorem idx_step (l : List ByteArray) (s : ByteArray) (k : Nat) (hk : k < l.length) (h : idx l s = (idx (l.drop k) s).map (· + k)) : (l[k] = s → idx l s = some k) ∧ (l[k] ≠ s → idx l s = (idx (l.drop (k + 1)) s).map (· + (k + 1))) := by
  rw [List.drop_eq_getElem_cons hk, idx] at h
  constructor
  · intro he
    rw [h, if_pos he]
    simp
  · intro he
    rw [h, if_neg he, Option.map_map]
    congr 1
    funext x
    show x + 1 + k = x + (k + 1)
    omega
set_option maxRecDepth 100000 in
set_option maxHeartbeats 2000000 in
theorem index_any (l : List ByteArray) (v : Value) (base : Nat) (w : World) (h : w.ownsRow base 9 1 v l.length (strsCells l)) (s : ByteArray) :
    Calls Tryz.prog 157 #[v, .string s] w fun e w' => e = .returned (.int .i64 (dupI (idx l s))) ∧ w = w' := by
  obtain ⟨a, c, rfl⟩ := ownsRow_form h
  have hfew := row_few h
  have HR := Lib.hid h
  have HI := Lib.hid (show idx l s = (idx (l.drop 0) s).map (· + 0) by simp)
  clear h
  go_enter Tryz.func157, Tryz.ntmps157
  go_wp2
  go_loop [8] (fun i => ∃ k : Nat, k ≤ l.length ∧ i = .int .i64 k ∧ idx l s = (idx (l.drop k) s).map (· + k)) (fun i => l.length - (intOf i).toNat)
  case atStart => exact ⟨0, Nat.zero_le _, rfl, HI.out⟩
  case round =>
    clear HI
    obtain ⟨k, hk, rfl, hi⟩ := hrel
    by_cases hkl : k < l.length
    · obtain ⟨g, cc, hv, hcc, hg, hcell⟩ := row_el strCells 1 (fun _ => rfl) HR.out k hkl
      obtain ⟨rfl, rfl⟩ := slice_inj hv
      have x0 : w.cell? ⟨g, k, none⟩ = some (.string l[k]) := by have := hcell 0 (by omega); rw [Nat.mul_one, Nat.add_zero] at this; exact this
      obtain ⟨d1, d2⟩ := idx_step l s k hkl hi
      generalize l[k] = q at *
      by_cases hq : q = s
      · subst hq
        have HD := Lib.hid (d1 rfl)
        have hb : (q.toList == q.toList) = true := by rw [str_beq]; exact decide_eq_true rfl
        clear hi d1 d2 hcell hv
        go_wp2
        go_ret
        exact ⟨by rw [HD.out]; rfl, rfl⟩
      · have HD := Lib.hid (d2 hq)
        have hb : (s.toList == q.toList) = false := by rw [str_beq]; exact decide_eq_false (fun e => hq e.symm)
        clear hi d1 d2 hcell hv hq
        go_wp2
        go_round
        case rel => exact ⟨k + 1, by omega, by go_num, HD.out⟩
        case measure => simp [intOf]; omega
    · obtain rfl : k = l.length := by omega
      have HD : Hid (idx l s = none) := Lib.hid (by rw [hi, List.drop_length]; rfl)
      clear hi
      go_wp2
      go_ret
      exact ⟨by rw [HD.out]; rfl, rfl⟩
def optV : Option Nat → Value
  | none => .tuple #[.int .u64 0, .bool false]
  | some n => .tuple #[.int .u64 (n : Nat), .bool true]
theorem idx_lt : ∀ (l : List ByteArray) (s : ByteArray) (k : Nat), idx l s = some k → k < l.length
  | [], _, _, h => by cases h
  | a :: r, s, k, h => by
    rw [idx] at h
    split at h
    · cases h
      simp
    · obtain ⟨j, hj, rfl⟩ := Option.map_eq_some_iff.1 h
      have := idx_lt r s j hj
      simp
      omega
set_option maxRecDepth 100000 in
set_option maxHeartbeats 2000000 in
theorem choose_any (t : Tok) (l : List ByteArray) (v : Value) (base : Nat) (w : World) (h : w.ownsRow base 9 1 v l.length (strsCells l)) :
    Calls Tryz.prog 146 #[.agg #[.int .i64 t.kind, .string (tokT t), .int .i64 t.place], v] w fun e w' => e = .returned (optV (chooseM t l)) ∧ Below w.heap.size w w' := by
  have hb : Below w.heap.size w (w.alloc (.cells #[.int .i64 t.kind, .string (tokT t), .int .i64 t.place] 108)) := (Below.refl _ _).alloc (Nat.le_refl _) _
  have HI := Lib.hid (index_any l v base _ (row_keep hb h) (tokT t))
  have HB := Lib.hid hb
  have HL := Lib.hid (idx_lt l (tokT t))
  have hfew := row_few h
  have HC : Hid (chooseM t l = if t.kind = 1 then idx l (tokT t) else none) := Lib.hid rfl
  clear hb h
  go_enter Tryz.func146, Tryz.ntmps146
  go_wp2_with fail
  refine HI.out.mono ?_
  rintro e w' ⟨rfl, rfl⟩
  by_cases hk : t.kind = 1
  · have HC' := Lib.hid (HC.out.trans (if_pos hk))
    generalize t.kind = K at *
    subst hk
    cases hx : idx l (tokT t) with
    | none =>
      have HX := Lib.hid hx
      clear hx
      simp only [dupI]
      go_wp2
      go_ret2
      exact ⟨by rw [HC'.out, HX.out]; rfl, HB.out⟩
    | some k =>
      have hlt := HL.out k hx
      have HX := Lib.hid hx
      have hw : IntKind.u64.wrap (k : Int) = k := IntWalk.u64_in _ (by omega)
      clear hx
      simp only [dupI]
      go_wp2
      go_ret2
      exact ⟨by rw [HC'.out, HX.out]; rfl, HB.out⟩
  · have HC' := Lib.hid (HC.out.trans (if_neg hk))
    generalize dupI (idx l (tokT t)) = x at *
    go_wp2
    go_ret2
    exact ⟨by rw [HC'.out]; rfl, HB.out⟩
end Go.Proofs.YtdlfndjgncdgfaaGreatDoor
