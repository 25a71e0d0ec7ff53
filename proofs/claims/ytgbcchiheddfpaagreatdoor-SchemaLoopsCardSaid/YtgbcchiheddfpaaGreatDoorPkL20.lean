/-
  Texts as bytes: two of the same bytes are one; a part's bytes; each token of a text is fine, no longer than the text, and of bytes. Conditions: those that each theorem names.
-/
import Derived.Test.YtgbcchiheddfpaaGreatDoorPkL1
import Derived.Test.YtgbcchiheddfpaaGreatDoorPkL2
import Derived.Test.YtgbcchiheddfpaaGreatDoorPkL5
import Derived.Test.YtgbcchiheddfpaaGreatDoorPkL11
import Derived.Test.YtgbcchiheddfpaaGreatDoorPkL15
import Derived.Test.YtgbcchiheddfpaaGreatDoorPkL16
import Derived.Test.YtgbcchiheddfpaaGreatDoorPkL18
import Derived.Lib.ConvBytes
import Derived.Lib.AtoiErrMem
import Derived.Deep.Cut
import Derived.Lib.Strings
import Derived.Laws.BytesArg
namespace Go.Proofs.YtgbcchiheddfpaaGreatDoor
open Go.ChangeShapes Go.WideShapes Go.ChangeAt Go.RowKit Go.Shelf

theorem begins_any (p : Option Addr) (n cap i : Nat) (x : Int) (zs : List Int) (w : World) (hx : x = i) (hz : Bytes w p zs) (hn : zs.length = n) (hl : n ≤ 281474976710656) (hi : i ≤ n) :
    Calls Tryz.prog 197 #[.slice p n cap, .int .i64 x] w fun e w' => e = .returned (.bool (begins zs i)) ∧ Below w.heap.size w w' := by
  subst hx
  have HR := Lib.hid (fun (j : Nat) (y : Int) v k W hy hb hk => stands_any p n cap j y zs v k W hy (Bytes.below hz (Nat.le_refl _) hb) hn hk hl)
  have HE : Hid (begins zs i = (stA zs isDig i || (stA zs (isC 45) i && stA zs isDig (i + 1)))) := rfl
  generalize begins zs i = r at HE ⊢
  clear hz hn
  cases h1 : stA zs isDig i
  · cases h2 : stA zs (isC 45) i
    · rw [h1, h2] at HE
      have H1 := Lib.hid h1
      have H2 := Lib.hid h2
      clear h1 h2
      go_enter Tryz.func197, Tryz.ntmps197
      go_wp2_with fail
      refine (digit_any _).mono ?_
      rintro e W1 ⟨v1, rfl, hb1, hk1⟩
      have HK1 := Lib.hid hk1
      have HB1 := Lib.hid hb1
      clear hk1 hb1
      go_wp2_with fail
      refine (HR.out i _ v1 isDig W1 rfl HB1.out HK1.out).mono ?_
      rintro e W2 ⟨rfl, hb2⟩
      have HB2 := Lib.hid (HB1.out.trans (hb2.mono HB1.out.size))
      clear hb2
      rw [H1.out]
      go_wp2_with fail
      refine (minus_any _).mono ?_
      rintro e W3 ⟨v3, rfl, hb3, hk3⟩
      have HK3 := Lib.hid hk3
      have HB3 := Lib.hid (HB2.out.trans (hb3.mono HB2.out.size))
      clear hk3 hb3
      go_wp2_with fail
      refine (HR.out i _ v3 (isC 45) W3 rfl HB3.out HK3.out).mono ?_
      rintro e W4 ⟨rfl, hb4⟩
      have HB4 := Lib.hid (HB3.out.trans (hb4.mono HB3.out.size))
      clear hb4
      rw [H2.out]
      go_wp2
      go_ret
      exact ⟨ret_bool (by rw [HE.out]; rfl), HB4.out⟩
    · rw [h1, h2] at HE
      have H1 := Lib.hid h1
      have H2 := Lib.hid h2
      clear h1 h2
      go_enter Tryz.func197, Tryz.ntmps197
      go_wp2_with fail
      refine (digit_any _).mono ?_
      rintro e W1 ⟨v1, rfl, hb1, hk1⟩
      have HK1 := Lib.hid hk1
      have HB1 := Lib.hid hb1
      clear hk1 hb1
      go_wp2_with fail
      refine (HR.out i _ v1 isDig W1 rfl HB1.out HK1.out).mono ?_
      rintro e W2 ⟨rfl, hb2⟩
      have HB2 := Lib.hid (HB1.out.trans (hb2.mono HB1.out.size))
      clear hb2
      rw [H1.out]
      go_wp2_with fail
      refine (minus_any _).mono ?_
      rintro e W3 ⟨v3, rfl, hb3, hk3⟩
      have HK3 := Lib.hid hk3
      have HB3 := Lib.hid (HB2.out.trans (hb3.mono HB2.out.size))
      clear hk3 hb3
      go_wp2_with fail
      refine (HR.out i _ v3 (isC 45) W3 rfl HB3.out HK3.out).mono ?_
      rintro e W4 ⟨rfl, hb4⟩
      have HB4 := Lib.hid (HB3.out.trans (hb4.mono HB3.out.size))
      clear hb4
      rw [H2.out]
      go_wp2_with fail
      refine (digit_any _).mono ?_
      rintro e W5 ⟨v5, rfl, hb5, hk5⟩
      have HK5 := Lib.hid hk5
      have HB5 := Lib.hid (HB4.out.trans (hb5.mono HB4.out.size))
      clear hk5 hb5
      go_wp2_with fail
      refine (HR.out (i + 1) _ v5 isDig W5 (by omega) HB5.out HK5.out).mono ?_
      rintro e W6 ⟨rfl, hb6⟩
      have HB6 := Lib.hid (HB5.out.trans (hb6.mono HB5.out.size))
      clear hb6
      generalize stA zs isDig (i + 1) = r2 at HE ⊢
      go_wp2
      go_ret
      exact ⟨ret_bool (by rw [HE.out]; simp), HB6.out⟩
  · rw [h1] at HE
    have H1 := Lib.hid h1
    clear h1
    go_enter Tryz.func197, Tryz.ntmps197
    go_wp2_with fail
    refine (digit_any _).mono ?_
    rintro e W1 ⟨v1, rfl, hb1, hk1⟩
    have HK1 := Lib.hid hk1
    have HB1 := Lib.hid hb1
    clear hk1 hb1
    go_wp2_with fail
    refine (HR.out i _ v1 isDig W1 rfl HB1.out HK1.out).mono ?_
    rintro e W2 ⟨rfl, hb2⟩
    have HB2 := Lib.hid (HB1.out.trans (hb2.mono HB1.out.size))
    clear hb2
    rw [H1.out]
    go_wp2
    go_ret
    exact ⟨ret_bool (by rw [HE.out]; rfl), HB2.out⟩
def numVal (zs : List Int) (i : Nat) : Value := if numBad zs i = true then .tuple #[.int .i64 0, .bool false] else .tuple #[.int .i64 (numEnd zs i : Nat), .bool true]
theorem numVal_eq (zs : List Int) (i : Nat) : numVal zs i = if numBad zs i = true then .tuple #[.int .i64 0, .bool false] else .tuple #[.int .i64 (numEnd zs i : Nat), .bool true] := rfl
theorem numVal_bad {c : Bool} (E : Nat) (h : c = true) : (if c = true then Value.tuple #[.int .i64 0, .bool false] else .tuple #[.int .i64 (E : Nat), .bool true]) = .tuple #[.int .i64 0, .bool false] := if_pos h
theorem numVal_good {c : Bool} (E : Nat) (h : c = false) : (if c = true then Value.tuple #[.int .i64 0, .bool false] else .tuple #[.int .i64 (E : Nat), .bool true]) = .tuple #[.int .i64 (E : Nat), .bool true] := if_neg (by rw [h]; decide)
set_option maxHeartbeats 800000 in
theorem number_any (p : Option Addr) (n cap i : Nat) (x : Int) (zs : List Int) (w : World) (hx : x = i) (hz : Bytes w p zs) (hn : zs.length = n) (hl : n ≤ 281474976710656) (hi : i ≤ n) :
    Calls Tryz.prog 198 #[.slice p n cap, .int .i64 x] w fun e w' => e = .returned (numVal zs i) ∧ Below w.heap.size w w' := by
  subst hx
  have HR := Lib.hid (fun (j : Nat) (y : Int) v k W hy hb hk => stands_any p n cap j y zs v k W hy (Bytes.below hz (Nat.le_refl _) hb) hn hk hl)
  have HU := Lib.hid (fun (j : Nat) (y : Int) v k W hy hj hb hk => run_any p n cap j y zs v k W hy (Bytes.below hz (Nat.le_refl _) hb) hn hk hl hj)
  have HN := Lib.hid hn
  clear hz hn
  cases h0 : stA zs (isC 45) i
  · have hM : minusTo zs i = i := by unfold minusTo; rw [if_neg (by rw [h0]; decide)]
    have hE : numBad zs i = (decide (runTo zs isDig i - i = 0) || decide (20 < runTo zs isDig i - i) || stA zs isLet (runTo zs isDig i) || (stA zs (isC 48) i && (false || decide (1 < runTo zs isDig i - i)))) := by
      unfold numBad zeroAhead
      rw [hM, h0]
    have hN : numEnd zs i = runTo zs isDig i := by unfold numEnd; rw [hM]
    have hlo := runTo_ge zs isDig i
    have hup := runTo_le zs isDig i (by have := HN.out; omega)
    rw [HN.out] at hup
    have HV := Lib.hid (numVal_eq zs i)
    rw [hE, hN] at HV
    have H0 := Lib.hid h0
    clear hE hN hM h0
    go_enter Tryz.func198, Tryz.ntmps198
    go_wp2_with fail
    refine (minus_any _).mono ?_
    rintro e W1 ⟨v1, rfl, hb1, hk1⟩
    have HK1 := Lib.hid hk1
    have HB1 := Lib.hid hb1
    clear hk1 hb1
    go_wp2_with fail
    refine (HR.out i _ v1 (isC 45) W1 rfl HB1.out HK1.out).mono ?_
    rintro e W2 ⟨rfl, hb2⟩
    have HB2 := Lib.hid (HB1.out.trans (hb2.mono HB1.out.size))
    clear hb2
    rw [H0.out]
    go_wp2_with fail
    refine (digit_any _).mono ?_
    rintro e W3 ⟨v3, rfl, hb3, hk3⟩
    have HK3 := Lib.hid hk3
    have HB3 := Lib.hid (HB2.out.trans (hb3.mono HB2.out.size))
    clear hk3 hb3
    go_wp2_with fail
    refine (HU.out i _ v3 isDig W3 rfl (by omega) HB3.out HK3.out).mono ?_
    rintro e W4 ⟨rfl, hb4⟩
    have HB4 := Lib.hid (HB3.out.trans (hb4.mono HB3.out.size))
    clear hb4
    generalize runTo zs isDig i = E at hlo hup HV ⊢
    by_cases c0 : E - i = 0
    · have t0 : (((E : Int) - (i : Int)) == 0) = true := by simp; omega
      have HV' := Lib.hid (HV.out.trans (numVal_bad E (by simp [c0])))
      clear c0
      go_wp2
      go_ret2
      exact ⟨by rw [HV'.out]; rfl, HB4.out⟩
    have t0 : (((E : Int) - (i : Int)) == 0) = false := by simp; omega
    by_cases c1 : 20 < E - i
    · have HV' := Lib.hid (HV.out.trans (numVal_bad E (by simp [c1])))
      have t1 : decide (20 < (E : Int) - (i : Int)) = true := by simp; omega
      go_wp2
      go_ret2
      exact ⟨by rw [HV'.out]; rfl, HB4.out⟩
    have t1 : decide (20 < (E : Int) - (i : Int)) = false := by simp; omega
    have t1b : ¬ (20 < (E : Int) - (i : Int)) := by omega
    go_wp2_with fail
    refine (letter_any _).mono ?_
    rintro e W5 ⟨v5, rfl, hb5, hk5⟩
    have HK5 := Lib.hid hk5
    have HB5 := Lib.hid (HB4.out.trans (hb5.mono HB4.out.size))
    clear hk5 hb5
    go_wp2_with fail
    refine (HR.out E _ v5 isLet W5 rfl HB5.out HK5.out).mono ?_
    rintro e W6 ⟨rfl, hb6⟩
    have HB6 := Lib.hid (HB5.out.trans (hb6.mono HB5.out.size))
    clear hb6
    cases h1 : stA zs isLet E
    rotate_left
    · have HV' := Lib.hid (HV.out.trans (numVal_bad E (by simp [h1])))
      clear h1
      go_wp2
      go_ret2
      exact ⟨by rw [HV'.out]; rfl, HB6.out⟩
    have H1 := Lib.hid h1
    clear h1
    go_wp2_with fail
    refine (among_any ⟨#[48]⟩ _).mono ?_
    rintro e W7 ⟨v7, rfl, hb7, hk7⟩
    have HK7 : Hid (KindV W7 v7 (isC 48)) := hk7.congr fun c _ _ => by simp [amg, bts, isC]
    have HB7 := Lib.hid (HB6.out.trans (hb7.mono HB6.out.size))
    clear hk7 hb7
    go_wp2_with fail
    refine (HR.out i _ v7 (isC 48) W7 rfl HB7.out HK7.out).mono ?_
    rintro e W8 ⟨rfl, hb8⟩
    have HB8 := Lib.hid (HB7.out.trans (hb8.mono HB7.out.size))
    clear hb8
    cases h2 : stA zs (isC 48) i
    · have HV' := Lib.hid (HV.out.trans (numVal_good E (by rw [H1.out, h2, decide_eq_false c0, decide_eq_false c1]; rfl)))
      clear h2
      go_wp2
      go_ret2
      exact ⟨by rw [HV'.out]; rfl, HB8.out⟩
    · by_cases c2 : 1 < E - i
      · have HV' := Lib.hid (HV.out.trans (numVal_bad E (by simp [h2, c2])))
        have t2 : decide (1 < (E : Int) - i) = true := by simp; omega
        clear h2 c2
        go_wp2
        go_ret2
        exact ⟨by rw [HV'.out]; rfl, HB8.out⟩
      · have HV' := Lib.hid (HV.out.trans (numVal_good E (by rw [H1.out, h2, decide_eq_false c0, decide_eq_false c1, decide_eq_false c2]; rfl)))
        have t2 : decide (1 < (E : Int) - i) = false := by simp; omega
        clear h2 c2
        go_wp2
        go_ret2
        exact ⟨by rw [HV'.out]; rfl, HB8.out⟩
  · have hM : minusTo zs i = (i + 1) := by unfold minusTo; rw [if_pos (by rw [h0])]
    have hE : numBad zs i = (decide (runTo zs isDig (i + 1) - (i + 1) = 0) || decide (20 < runTo zs isDig (i + 1) - (i + 1)) || stA zs isLet (runTo zs isDig (i + 1)) || (stA zs (isC 48) (i + 1) && (true || decide (1 < runTo zs isDig (i + 1) - (i + 1))))) := by
      unfold numBad zeroAhead
      rw [hM, h0]
    have hN : numEnd zs i = runTo zs isDig (i + 1) := by unfold numEnd; rw [hM]
    have hlo := runTo_ge zs isDig (i + 1)
    have hup := runTo_le zs isDig (i + 1) (by have := stA_lt h0; omega)
    rw [HN.out] at hup
    have HV := Lib.hid (numVal_eq zs i)
    rw [hE, hN] at HV
    have H0 := Lib.hid h0
    clear hE hN hM h0
    go_enter Tryz.func198, Tryz.ntmps198
    go_wp2_with fail
    refine (minus_any _).mono ?_
    rintro e W1 ⟨v1, rfl, hb1, hk1⟩
    have HK1 := Lib.hid hk1
    have HB1 := Lib.hid hb1
    clear hk1 hb1
    go_wp2_with fail
    refine (HR.out i _ v1 (isC 45) W1 rfl HB1.out HK1.out).mono ?_
    rintro e W2 ⟨rfl, hb2⟩
    have HB2 := Lib.hid (HB1.out.trans (hb2.mono HB1.out.size))
    clear hb2
    rw [H0.out]
    go_wp2_with fail
    refine (digit_any _).mono ?_
    rintro e W3 ⟨v3, rfl, hb3, hk3⟩
    have HK3 := Lib.hid hk3
    have HB3 := Lib.hid (HB2.out.trans (hb3.mono HB2.out.size))
    clear hk3 hb3
    go_wp2_with fail
    refine (HU.out (i + 1) _ v3 isDig W3 (by omega) (by omega) HB3.out HK3.out).mono ?_
    rintro e W4 ⟨rfl, hb4⟩
    have HB4 := Lib.hid (HB3.out.trans (hb4.mono HB3.out.size))
    clear hb4
    generalize runTo zs isDig (i + 1) = E at hlo hup HV ⊢
    by_cases c0 : E - (i + 1) = 0
    · have t0 : (((E : Int) - ((i : Int) + 1)) == 0) = true := by simp; omega
      have HV' := Lib.hid (HV.out.trans (numVal_bad E (by simp [c0])))
      clear c0
      go_wp2
      go_ret2
      exact ⟨by rw [HV'.out]; rfl, HB4.out⟩
    have t0 : (((E : Int) - ((i : Int) + 1)) == 0) = false := by simp; omega
    by_cases c1 : 20 < E - (i + 1)
    · have HV' := Lib.hid (HV.out.trans (numVal_bad E (by simp [c1])))
      have t1 : decide (20 < (E : Int) - ((i : Int) + 1)) = true := by simp; omega
      go_wp2
      go_ret2
      exact ⟨by rw [HV'.out]; rfl, HB4.out⟩
    have t1 : decide (20 < (E : Int) - ((i : Int) + 1)) = false := by simp; omega
    have t1b : ¬ (20 < (E : Int) - ((i : Int) + 1)) := by omega
    go_wp2_with fail
    refine (letter_any _).mono ?_
    rintro e W5 ⟨v5, rfl, hb5, hk5⟩
    have HK5 := Lib.hid hk5
    have HB5 := Lib.hid (HB4.out.trans (hb5.mono HB4.out.size))
    clear hk5 hb5
    go_wp2_with fail
    refine (HR.out E _ v5 isLet W5 rfl HB5.out HK5.out).mono ?_
    rintro e W6 ⟨rfl, hb6⟩
    have HB6 := Lib.hid (HB5.out.trans (hb6.mono HB5.out.size))
    clear hb6
    cases h1 : stA zs isLet E
    rotate_left
    · have HV' := Lib.hid (HV.out.trans (numVal_bad E (by simp [h1])))
      clear h1
      go_wp2
      go_ret2
      exact ⟨by rw [HV'.out]; rfl, HB6.out⟩
    have H1 := Lib.hid h1
    clear h1
    go_wp2_with fail
    refine (among_any ⟨#[48]⟩ _).mono ?_
    rintro e W7 ⟨v7, rfl, hb7, hk7⟩
    have HK7 : Hid (KindV W7 v7 (isC 48)) := hk7.congr fun c _ _ => by simp [amg, bts, isC]
    have HB7 := Lib.hid (HB6.out.trans (hb7.mono HB6.out.size))
    clear hk7 hb7
    go_wp2_with fail
    refine (HR.out (i + 1) _ v7 (isC 48) W7 (by omega) HB7.out HK7.out).mono ?_
    rintro e W8 ⟨rfl, hb8⟩
    have HB8 := Lib.hid (HB7.out.trans (hb8.mono HB7.out.size))
    clear hb8
    cases h2 : stA zs (isC 48) (i + 1)
    · have HV' := Lib.hid (HV.out.trans (numVal_good E (by rw [H1.out, h2, decide_eq_false c0, decide_eq_false c1]; rfl)))
      clear h2
      go_wp2
      go_ret2
      exact ⟨by rw [HV'.out]; rfl, HB8.out⟩
    · have HV' := Lib.hid (HV.out.trans (numVal_bad E (by simp [h2])))
      clear h2
      go_wp2
      go_ret2
      exact ⟨by rw [HV'.out]; rfl, HB8.out⟩
end Go.Proofs.YtgbcchiheddfpaaGreatDoor
namespace Go.Proofs.YtgbcchiheddfpaaGreatDoor
open Go.ChangeShapes Go.WideShapes Go.ChangeAt Go.RowKit Go.Shelf

def ErrV (w : World) : Prop := ∃ t v, w.cell? ⟨5, 0, none⟩ = some (.iface t v)
theorem ErrV.later {w w' : World} (h : ErrV w) (hb : Below w.heap.size w w') : ErrV w' := by
  obtain ⟨t, v, h⟩ := h
  exact ⟨t, v, (hb.cell (p := ⟨5, 0, none⟩) (World.block_lt_of_cell? _ _ h)).trans h⟩
def numR : Option Nat → Value
  | none => .tuple #[.int .u64 0, .bool false]
  | some n => .tuple #[.int .u64 (n : Nat), .bool true]
theorem minus_prefix (s : ByteArray) : Lib.hasPrefix s.data.toList (ByteArray.mk #[45]).data.toList = stA (bts s) (isC 45) 0 := by
  unfold Lib.hasPrefix bts stA
  cases s.data.toList with
  | nil => simp [List.isPrefixOf]
  | cons a r =>
    simp only [List.map_cons, List.length_cons, List.getD_cons_zero, isC]
    rw [decide_eq_true (by omega), Bool.true_and]
    simp only [List.isPrefixOf, Bool.and_true]
    rw [Bool.eq_iff_iff, beq_iff_eq, decide_eq_true_iff, ← UInt8.toNat_inj]
    constructor
    · intro h; rw [← h]; rfl
    · intro h
      have : a.toNat = 45 := by omega
      rw [this]; rfl
theorem minus_trim (s : ByteArray) : (Lib.trimPrefix s.data.toList (ByteArray.mk #[45]).data.toList).map (fun b => (b.toNat : Int)) = digs (bts s) := by
  unfold Lib.trimPrefix digs
  rw [minus_prefix]
  split
  · simp [bts]
  · rfl
theorem trim_size (s p : List UInt8) : (Lib.trimPrefix s p).length ≤ s.length := by
  unfold Lib.trimPrefix
  split <;> simp
theorem parse_digs (s : ByteArray) (h : goodN (bts s) = true) :
    Lib.parseUintB 64 (Lib.trimPrefix s.data.toList (ByteArray.mk #[45]).data.toList) = if decF 0 (digs (bts s)) ≤ maxU then .ok (decF 0 (digs (bts s))) else .range := by
  obtain ⟨h1, h2⟩ := good_digs h
  rw [← minus_trim] at h1 h2 ⊢
  refine parseUintB_dec _ (fun he => h1 (by rw [he]; rfl)) (fun b hb => ?_)
  have := h2 _ (List.mem_map_of_mem hb)
  omega
theorem sized_iff (size : Int) : sizedB size = true ↔ (size = 1 ∨ size = 2 ∨ size = 4 ∨ size = 8) := by unfold sizedB; rw [decide_eq_true_iff]
theorem numV_bad1 {zs : List Int} {size : Int} {sign : Bool} (h : numBad zs 0 = true) : numV zs size sign = none := by
  unfold numV goodN
  rw [if_neg (by rw [h]; rintro ⟨h, _⟩; cases h)]
theorem numV_bad2 {zs : List Int} {size : Int} {sign : Bool} (h : numEnd zs 0 ≠ zs.length) : numV zs size sign = none := by
  unfold numV goodN
  rw [if_neg (by rw [decide_eq_false h, Bool.and_false]; rintro ⟨h, _⟩; cases h)]
theorem numV_bad3 {zs : List Int} {size : Int} {sign : Bool} (h : ¬ (size = 1 ∨ size = 2 ∨ size = 4 ∨ size = 8)) : numV zs size sign = none := by
  unfold numV
  rw [if_neg (fun hh => h ((sized_iff size).1 hh.2.1))]
theorem numV_bad4 {zs : List Int} {size : Int} {sign : Bool} (h : ¬ decF 0 (digs zs) ≤ maxU) : numV zs size sign = none := by
  unfold numV
  rw [if_neg (fun hh => h hh.2.2.1)]
theorem numV_bad5 {zs : List Int} {size : Int} {sign : Bool} (h : fitsB (decF 0 (digs zs)) (stA zs (isC 45) 0) size sign = false) : numV zs size sign = none := by
  unfold numV
  rw [if_neg (fun hh => by have := hh.2.2.2; rw [h] at this; cases this)]
theorem numV_yes {zs : List Int} {size : Int} {sign : Bool} (h1 : numBad zs 0 = false) (h2 : numEnd zs 0 = zs.length) (h3 : size = 1 ∨ size = 2 ∨ size = 4 ∨ size = 8) (h4 : decF 0 (digs zs) ≤ maxU) (h5 : fitsB (decF 0 (digs zs)) (stA zs (isC 45) 0) size sign = true) :
    numV zs size sign = some (if stA zs (isC 45) 0 = true then (18446744073709551616 - decF 0 (digs zs)) % 18446744073709551616 else decF 0 (digs zs)) := by
  unfold numV
  rw [if_pos ⟨by unfold goodN; rw [h1, decide_eq_true h2]; rfl, (sized_iff size).2 h3, h4, h5⟩]
theorem below_bytes {B : Nat} {w W : World} (h : Below B w W) (hB : B ≤ W.heap.size) (e : TypeId) (s : ByteArray) : Below B w (Lib.bytesWorld W e s) := h.trans ((Lib.bytesWorld_below W e s).mono hB)
theorem bytes_new (w : World) (s : ByteArray) : Bytes (Lib.bytesWorld w 5 s) (some ⟨w.heap.size, 0, none⟩) (bts s) := by
  refine ⟨bts_bd s, fun _ => ⟨w.heap.size, 0, rfl, by rw [Lib.bytesWorld_size]; omega, fun i hi => ?_⟩⟩
  rw [bts_length] at hi
  rw [Nat.zero_add, Lib.bytesWorld_cell w _ s i hi]
  simp [bts, List.getD, hi]
theorem lexNumber_bad (s : ByteArray) (size : Int) (sign : Bool) (w : World) (hs : s.size ≤ 281474976710656) (h : numBad (bts s) 0 = true ∨ (numBad (bts s) 0 = false ∧ (numEnd (bts s) 0 ≠ s.size ∨ (numEnd (bts s) 0 = s.size ∧ ¬ (size = 1 ∨ size = 2 ∨ size = 4 ∨ size = 8))))) :
    Calls Tryz.prog 241 #[.string s, .int .i64 size, .bool sign] w fun e w' => e = .returned (.tuple #[.int .u64 0, .bool false]) ∧ Below w.heap.size w w' := by
  have kc := fun W => Lib.run_convert_string_bytes (P := Tryz.prog) W 9 22 5 s Tryz.underlying9 Tryz.underlying22 Tryz.underlying5
  have H := Lib.hid h
  clear h
  go_enter Tryz.func241, Tryz.ntmps241
  go_wp2_with fail
  refine (number_any _ s.size _ 0 _ (bts s) _ rfl (bytes_new w s) (bts_length s) hs (Nat.zero_le _)).mono ?_
  rintro e W1 ⟨rfl, hb1⟩
  have HB1 := Lib.hid ((below_bytes (Below.refl _ _) (Nat.le_refl _) 5 s).trans (hb1.mono (by rw [Lib.bytesWorld_size]; omega)))
  clear hb1
  rcases H.out with h | ⟨h, h2⟩
  · rw [show numVal (bts s) 0 = _ from if_pos h]
    clear h
    go_wp2
    go_ret2
    exact ⟨rfl, HB1.out⟩
  · rw [show numVal (bts s) 0 = _ from if_neg (by rw [h]; decide)]
    generalize numEnd (bts s) 0 = E at h2
    rcases h2 with h2 | ⟨h2, h3⟩
    · have t : ((E : Int) != (s.size : Int)) = true := by simp; omega
      clear h h2
      go_wp2
      go_ret2
      exact ⟨rfl, HB1.out⟩
    · have t : ((E : Int) != (s.size : Int)) = false := by simp; omega
      have H3 := Lib.hid h3
      clear h h2 h3
      go_wp2_with fail
      refine (sized_no size _ H3.out).mono ?_
      rintro e W2 ⟨rfl, rfl⟩
      go_wp2
      go_ret2
      exact ⟨rfl, HB1.out⟩
theorem digs_str (s : ByteArray) (h : goodN (bts s) = true) : ∃ d : ByteArray, (⟨(Lib.trimPrefix s.data.toList (ByteArray.mk #[45]).data.toList).toArray⟩ : ByteArray) = d ∧ d.size ≤ s.size ∧ Lib.parseUintB 64 d.data.toList = if decF 0 (digs (bts s)) ≤ maxU then .ok (decF 0 (digs (bts s))) else .range := by
  refine ⟨_, rfl, ?_, ?_⟩
  · have := trim_size s.data.toList (ByteArray.mk #[45]).data.toList
    have e1 : s.data.toList.length = s.size := by simp
    simp only [ByteArray.size, List.size_toArray]
    simp only [ByteArray.size] at e1
    omega
  · exact parse_digs s h
theorem neg_wrap (V : Nat) (h : (V : Int) ≤ 18446744073709551615) : IntKind.u64.wrap (-(V : Int)) = (((18446744073709551616 - V) % 18446744073709551616 : Nat) : Int) := by
  rw [IntKind.wrap_u64]
  omega
set_option maxHeartbeats 800000 in
theorem lexNumber_good (s : ByteArray) (size : Int) (sign : Bool) (w : World) (hE : ErrV w) (hs : s.size ≤ 281474976710656) (h1 : numBad (bts s) 0 = false) (h2 : numEnd (bts s) 0 = s.size) (h3 : size = 1 ∨ size = 2 ∨ size = 4 ∨ size = 8) :
    Calls Tryz.prog 241 #[.string s, .int .i64 size, .bool sign] w fun e w' => e = .returned (numR (numV (bts s) size sign)) ∧ Below w.heap.size w w' := by
  have kc := fun W => Lib.run_convert_string_bytes (P := Tryz.prog) W 9 22 5 s Tryz.underlying9 Tryz.underlying22 Tryz.underlying5
  obtain ⟨d, hd, hds, hp⟩ := digs_str s (by unfold goodN; rw [h1, decide_eq_true (by rw [h2, bts_length])]; rfl)
  have HY := Lib.hid (fun h4 h5 => numV_yes (sign := sign) h1 (by rw [h2, bts_length]) h3 h4 h5)
  have HB4 := Lib.hid (fun h => numV_bad4 (zs := bts s) (size := size) (sign := sign) h)
  have HB5 := Lib.hid (fun h => numV_bad5 (zs := bts s) (size := size) (sign := sign) h)
  have HC := Lib.hid (Tryz.strings_CutPrefix s (ByteArray.mk #[45]))
  have HM := Lib.hid (minus_prefix s)
  have HNV : Hid (numVal (bts s) 0 = .tuple #[.int .i64 (numEnd (bts s) 0 : Nat), .bool true]) := if_neg (by rw [h1]; decide)
  rw [h2] at HNV
  have H3 := Lib.hid h3
  have HD := Lib.hid hd
  have HP := Lib.hid hp
  have HEV := Lib.hid hE
  generalize numV (bts s) size sign = r at HY HB4 HB5 ⊢
  clear h1 h2 h3 hd hp hE
  go_enter Tryz.func241, Tryz.ntmps241
  go_wp2_with fail
  refine (number_any _ s.size _ 0 _ (bts s) _ rfl (bytes_new w s) (bts_length s) hs (Nat.zero_le _)).mono ?_
  rintro e W1 ⟨rfl, hb1⟩
  have HB1 := Lib.hid ((below_bytes (Below.refl _ _) (Nat.le_refl _) 5 s).trans (hb1.mono (by rw [Lib.bytesWorld_size]; omega)))
  clear hb1
  rw [HNV.out]
  have t : ((s.size : Int) != (s.size : Int)) = false := by simp
  go_wp2_with fail
  refine (sized_yes size _ H3.out).mono ?_
  rintro e W2 ⟨rfl, rfl⟩
  go_wp2_with fail
  refine (HC.out W1).mono ?_
  rintro e W3 ⟨rfl, rfl⟩
  rw [HM.out, HD.out]
  generalize stA (bts s) (isC 45) 0 = b at HY HB5 ⊢
  generalize decF 0 (digs (bts s)) = V at HY HB4 HB5 HP
  by_cases hV : V ≤ maxU
  · have hP := HP.out
    rw [if_pos hV] at hP
    have HP' := Lib.hid hP
    have HV := Lib.hid hV
    have hv1 : (V : Int) ≤ 18446744073709551615 := Int.ofNat_le.2 hV
    clear hV hP
    go_wp2_with fail
    refine (Tryz.strconv_ParseUint_10_at64_ok d (by omega) V HP'.out W3).mono ?_
    rintro e W4 ⟨rfl, hw⟩
    have HB4' : Hid (Below w.heap.size w W4) := by
      rcases hw with rfl | rfl
      · exact HB1.out
      · exact below_bytes HB1.out HB1.out.size _ _
    clear hw
    go_wp2_with fail
    refine (fits_any V b size sign _ (by omega) H3.out).mono ?_
    rintro e W5 ⟨rfl, rfl⟩
    cases hf : fitsB (V : Int) b size sign
    · have HR := Lib.hid (HB5.out hf)
      clear hf
      go_wp2
      go_ret2
      exact ⟨by rw [HR.out]; rfl, HB4'.out⟩
    · have HR := Lib.hid (HY.out HV.out hf)
      clear hf
      cases b
      · rw [if_neg (by decide)] at HR
        go_wp2
        go_ret2
        exact ⟨by rw [HR.out]; rfl, HB4'.out⟩
      · rw [if_pos rfl] at HR
        go_wp2
        go_ret2
        exact ⟨(ret_int_bool (neg_wrap V hv1)).trans (by rw [HR.out]; rfl), HB4'.out⟩
  · have hP := HP.out
    rw [if_neg hV] at hP
    have HP' := Lib.hid hP
    have HR := Lib.hid (HB4.out hV)
    obtain ⟨te, ev, hev⟩ := HEV.out.later HB1.out
    have HX := Lib.hid hev
    clear hV hP hev
    go_wp2_with fail
    refine (Tryz.strconv_ParseUint_10_at64_range d (by omega) HP'.out _ W3 HX.out (.inr ⟨te, ev, rfl⟩)).mono ?_
    rintro e W4 ⟨N, rfl, hN, hN2, hb⟩
    clear hN hN2
    go_wp2
    go_ret2
    exact ⟨by rw [HR.out]; rfl, HB1.out.trans (hb.mono HB1.out.size)⟩
theorem lexNumber_any (s : ByteArray) (size : Int) (sign : Bool) (w : World) (hE : ErrV w) (hs : s.size ≤ 281474976710656) :
    Calls Tryz.prog 241 #[.string s, .int .i64 size, .bool sign] w fun e w' => e = .returned (numR (numV (bts s) size sign)) ∧ Below w.heap.size w w' := by
  cases h1 : numBad (bts s) 0
  · by_cases h2 : numEnd (bts s) 0 = s.size
    · by_cases h3 : size = 1 ∨ size = 2 ∨ size = 4 ∨ size = 8
      · exact lexNumber_good s size sign w hE hs h1 h2 h3
      · rw [numV_bad3 h3]
        exact lexNumber_bad s size sign w hs (.inr ⟨h1, .inr ⟨h2, h3⟩⟩)
    · rw [numV_bad2 (by rw [bts_length]; exact h2)]
      exact lexNumber_bad s size sign w hs (.inr ⟨h1, .inl h2⟩)
  · rw [numV_bad1 h1]
    exact lexNumber_bad s size sign w hs (.inl h1)
end Go.Proofs.YtgbcchiheddfpaaGreatDoor
namespace Go.Proofs.YtgbcchiheddfpaaGreatDoor
open Go.ChangeShapes Go.WideShapes Go.ChangeAt Go.RowKit Go.Shelf

def okU (zs : List Int) : Bool := decide (u8At zs 0 < 0)
def quoVal (zs : List Int) (i : Nat) : Value := if quoBad okU zs i = true then .tuple #[.int .i64 0, .bool false] else .tuple #[.int .i64 (quoEnd zs i + 1 : Nat), .bool true]
theorem quoVal_eq (zs : List Int) (i : Nat) : quoVal zs i = if quoBad okU zs i = true then .tuple #[.int .i64 0, .bool false] else .tuple #[.int .i64 (quoEnd zs i + 1 : Nat), .bool true] := rfl
theorem sub_length (zs : List Int) (i j : Nat) (_h : i ≤ j) (h2 : j ≤ zs.length) : (sub zs i j).length = j - i := by
  unfold sub
  rw [List.length_take, List.length_drop]
  omega
theorem sub_get (zs : List Int) (i j k : Nat) (h : k < j - i) : (sub zs i j).getD k 0 = zs.getD (i + k) 0 := by
  unfold sub
  simp [List.getD, h]
theorem sub_bd {zs : List Int} (h : ∀ i, 0 ≤ zs.getD i 0 ∧ zs.getD i 0 ≤ 255) (i j : Nat) : ∀ k, 0 ≤ (sub zs i j).getD k 0 ∧ (sub zs i j).getD k 0 ≤ 255 := by
  intro k
  by_cases hk : k < j - i
  · rw [sub_get zs i j k hk]
    exact h _
  · have : (sub zs i j).getD k 0 = 0 := by
      unfold sub
      rw [List.getD, List.getElem?_eq_none (by rw [List.length_take]; omega)]
      rfl
    rw [this]
    omega
theorem sub_utf8 (b off c n i j m : Nat) (zs : List Int) (w : World) (hT : Tabs w) (hz : Bytes w (some ⟨b, off, none⟩) zs) (hn : zs.length = n) (hl : n ≤ 281474976710656) (hij : i ≤ j) (hj : j < n) (hm : m = j - i) (hc : m ≤ c) :
    Calls Tryz.prog 82 #[.slice (some ⟨b, off + i, none⟩) m c] w fun e w' => e = .returned (.int .i64 (u8At (sub zs i j) 0)) ∧ Below w.heap.size w w' := by
  obtain ⟨b', off', he, hlt, hcell⟩ := hz.2 (by rintro rfl; simp at hn; omega)
  cases he
  have hlen := sub_length zs i j hij (by omega)
  refine wutf8_off b (off + i) c m (sub zs i j) w hT (sub_bd hz.1 i j) hlt (fun k hk => ?_) (by omega) (by omega) hc
  rw [sub_get zs i j k (by omega), Nat.add_assoc]
  exact hcell (i + k) (by omega)
set_option maxHeartbeats 800000 in
theorem quoted_any (p : Option Addr) (n cap i : Nat) (x : Int) (zs : List Int) (w : World) (hx : x = i) (hT : Tabs w) (hz : Bytes w p zs) (hn : zs.length = n) (hl : n ≤ 281474976710656) (hi : i < n) (hcap : n ≤ cap) :
    Calls Tryz.prog 200 #[.slice p n cap, .int .i64 x] w fun e w' => e = .returned (quoVal zs i) ∧ Below w.heap.size w w' := by
  subst hx
  obtain ⟨b, off, rfl, _, _⟩ := hz.2 (by rintro rfl; simp at hn; omega)
  have HR := Lib.hid (fun (j : Nat) (y : Int) v k W hy hb hk => stands_any (some ⟨b, off, none⟩) n cap j y zs v k W hy (Bytes.below hz (Nat.le_refl _) hb) hn hk hl)
  have HU := Lib.hid (fun (j : Nat) (y : Int) v k W hy hj hb hk => run_any (some ⟨b, off, none⟩) n cap j y zs v k W hy (Bytes.below hz (Nat.le_refl _) hb) hn hk hl hj)
  have HQ := Lib.hid (fun c j m W hb hij hj hm hc => sub_utf8 b off c n (i + 1) j m zs W (Tabs.below hT (Nat.le_refl _) hb) (Bytes.below hz (Nat.le_refl _) hb) hn hl hij hj hm hc)
  have HN := Lib.hid hn
  have HV := Lib.hid (quoVal_eq zs i)
  have hlo := runTo_ge zs isPlain (i + 1)
  have hup := runTo_le zs isPlain (i + 1) (by omega)
  rw [show quoEnd zs i = runTo zs isPlain (i + 1) from rfl] at HV
  have HB0 : Hid (quoBad okU zs i = (!stA zs (isC 34) (runTo zs isPlain (i + 1)) || !okU (sub zs (i + 1) (runTo zs isPlain (i + 1))))) := rfl
  rw [HB0.out] at HV
  rw [HN.out] at hup
  clear hz hn hT HB0
  go_enter Tryz.func200, Tryz.ntmps200
  go_wp2_with fail
  refine (plain_any _).mono ?_
  rintro e W1 ⟨v1, rfl, hb1, hk1⟩
  have HK1 := Lib.hid hk1
  have HB1 := Lib.hid hb1
  clear hk1 hb1
  go_wp2_with fail
  refine (HU.out (i + 1) _ v1 isPlain W1 (by omega) (by omega) HB1.out HK1.out).mono ?_
  rintro e W2 ⟨rfl, hb2⟩
  have HB2 := Lib.hid (HB1.out.trans (hb2.mono HB1.out.size))
  clear hb2
  generalize runTo zs isPlain (i + 1) = E at hlo hup HV ⊢
  go_wp2_with fail
  refine (quote_any _).mono ?_
  rintro e W3 ⟨v3, rfl, hb3, hk3⟩
  have HK3 := Lib.hid hk3
  have HB3 := Lib.hid (HB2.out.trans (hb3.mono HB2.out.size))
  clear hk3 hb3
  go_wp2_with fail
  refine (HR.out E _ v3 (isC 34) W3 rfl HB3.out HK3.out).mono ?_
  rintro e W4 ⟨rfl, hb4⟩
  have HB4 := Lib.hid (HB3.out.trans (hb4.mono HB3.out.size))
  clear hb4
  cases h1 : stA zs (isC 34) E
  · have HV' := Lib.hid (HV.out.trans (if_pos (by rw [h1]; rfl)))
    clear h1
    go_wp2
    go_ret2
    exact ⟨by rw [HV'.out]; rfl, HB4.out⟩
  · have hlt := stA_lt h1
    rw [HN.out] at hlt
    have hE : ¬ cap = i + 1 := by omega
    have H1 := Lib.hid h1
    clear h1
    go_wp2_with fail
    refine (HQ.out _ E _ W4 HB4.out hlo hlt rfl (by omega)).mono ?_
    rintro e W5 ⟨rfl, hb5⟩
    have HB5 := Lib.hid (HB4.out.trans (hb5.mono HB4.out.size))
    clear hb5
    have HO : Hid (okU (sub zs (i + 1) E) = decide (u8At (sub zs (i + 1) E) 0 < 0)) := rfl
    generalize u8At (sub zs (i + 1) E) 0 = u at HO ⊢
    by_cases hu : u < 0
    · have HV' := Lib.hid (HV.out.trans (if_neg (by rw [H1.out, HO.out, decide_eq_true hu]; decide)))
      go_wp2
      go_ret2
      exact ⟨by rw [HV'.out]; rfl, HB5.out⟩
    · have HV' := Lib.hid (HV.out.trans (if_pos (by rw [H1.out, HO.out, decide_eq_false hu]; rfl)))
      go_wp2
      go_ret2
      exact ⟨by rw [HV'.out]; rfl, HB5.out⟩
end Go.Proofs.YtgbcchiheddfpaaGreatDoor
namespace Go.Proofs.YtgbcchiheddfpaaGreatDoor
open Go.ChangeShapes Go.WideShapes Go.ChangeAt Go.RowKit Go.Shelf

theorem full_length (t : Tok) : t.text.length + (if t.kind = 3 then 2 else 0) = (full t).length := by
  unfold full
  split <;> simp
theorem text_bd {ok : List Int → Bool} {sg : Int → Bool} {s : ByteArray} {i e : Nat} {t : Tok} (_ : Fine ok sg t) (h : sub (bts s) i e = full t) : ∀ z ∈ t.text, 0 ≤ z ∧ z ≤ 255 := by
  intro z hz
  have h1 : z ∈ full t := by
    unfold full
    split
    · exact List.mem_cons_of_mem _ (List.mem_append_left _ hz)
    · exact hz
  rw [← h] at h1
  have h2 : z ∈ bts s := List.mem_of_mem_drop (List.mem_of_mem_take h1)
  obtain ⟨j, hj, rfl⟩ := List.mem_iff_getElem.1 h2
  have := bts_bd s j
  rw [List.getD, List.getElem?_eq_getElem hj] at this
  exact this
theorem chain_all {s : ByteArray} {sg : Int → Bool} : ∀ (l : List Tok) (i : Nat), i ≤ (bts s).length → Left okU sg (bts s) i l → ∀ t ∈ l, Fine okU sg t ∧ (full t).length ≤ s.size ∧ ∀ z ∈ t.text, 0 ≤ z ∧ z ≤ 255
  | [], _, _, _, t, h => by cases h
  | a :: r, i, hi, hl, t, h => by
    obtain ⟨f1, _, f3, f4, _, f6⟩ := left_step hi hl
    rcases List.mem_cons.1 h with rfl | h
    · refine ⟨f1, ?_, text_bd f1 f4⟩
      rw [bts_length] at f3
      omega
    · exact chain_all r _ f3 f6 t h
end Go.Proofs.YtgbcchiheddfpaaGreatDoor
