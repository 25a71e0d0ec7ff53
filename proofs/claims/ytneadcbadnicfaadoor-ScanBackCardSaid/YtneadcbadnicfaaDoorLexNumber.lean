/-
  The package lex's Number: the number that a text says. Conditions: those that each theorem names; the library's tables and its variable ErrRange hold what the row lists.
-/
import Derived.Test.YtneadcbadnicfaaDoorFits
import Derived.Test.YtneadcbadnicfaaDoorNumber
import Derived.Test.YtneadcbadnicfaaDoorShCut
import Derived.Test.YtneadcbadnicfaaDoorShUint
import Derived.Lib.ConvBytes
import Derived.Lib.AtoiErrMem
namespace Go.Proofs.YtneadcbadnicfaaDoor
open Go.ChangeShapes Go.WideShapes Go.ChangeAt Go.RowKit Go.Shelf

/-- The variable ErrRange holds an error. -/
def ErrV (w : World) : Prop := ∃ t v, w.cell? ⟨3, 0, none⟩ = some (.iface t v)
theorem ErrV.later {w w' : World} (h : ErrV w) (hb : Below w.heap.size w w') : ErrV w' := by
  obtain ⟨t, v, h⟩ := h
  exact ⟨t, v, (hb.cell (p := ⟨3, 0, none⟩) (World.block_lt_of_cell? _ _ h)).trans h⟩
def numR : Option Nat → Value
  | none => .tuple #[.int .u64 0, .bool false]
  | some n => .tuple #[.int .u64 (n : Nat), .bool true]
theorem minus_prefix (s : ByteArray) : Lib.hasPrefix s.data.toList (ByteArray.mk #[45]).data.toList = stA (bts s) (isC 45) 0 := by
  unfold Lib.hasPrefix bts stA
  cases s.data.toList with
  | nil => simp [List.isPrefixOf]
  | cons a r =>
    simp only [List.map_cons, List.length_cons, List.getD_cons_zero, isC]
    rw [decide_eq_true (by omega), Bool.true_and]
    simp only [List.isPrefixOf, Bool.and_true]
    rw [Bool.eq_iff_iff, beq_iff_eq, decide_eq_true_iff, ← UInt8.toNat_inj]
    constructor
    · intro h; rw [← h]; rfl
    · intro h
      have : a.toNat = 45 := by omega
      rw [this]; rfl
theorem minus_trim (s : ByteArray) : (Lib.trimPrefix s.data.toList (ByteArray.mk #[45]).data.toList).map (fun b => (b.toNat : Int)) = digs (bts s) := by
  unfold Lib.trimPrefix digs
  rw [minus_prefix]
  split
  · simp [bts]
  · rfl
theorem trim_size (s p : List UInt8) : (Lib.trimPrefix s p).length ≤ s.length := by
  unfold Lib.trimPrefix
  split <;> simp
/-- What ParseUint says of the digits. -/
theorem parse_digs (s : ByteArray) (h : goodN (bts s) = true) :
    Lib.parseUintB 64 (Lib.trimPrefix s.data.toList (ByteArray.mk #[45]).data.toList) = if decF 0 (digs (bts s)) ≤ maxU then .ok (decF 0 (digs (bts s))) else .range := by
  obtain ⟨h1, h2⟩ := good_digs h
  rw [← minus_trim] at h1 h2 ⊢
  refine parseUintB_dec _ (fun he => h1 (by rw [he]; rfl)) (fun b hb => ?_)
  have := h2 _ (List.mem_map_of_mem hb)
  omega
theorem sized_iff (size : Int) : sizedB size = true ↔ (size = 1 ∨ size = 2 ∨ size = 4 ∨ size = 8) := by unfold sizedB; rw [decide_eq_true_iff]
theorem numV_bad1 {zs : List Int} {size : Int} {sign : Bool} (h : numBad zs 0 = true) : numV zs size sign = none := by
  unfold numV goodN
  rw [if_neg (by rw [h]; rintro ⟨h, _⟩; cases h)]
theorem numV_bad2 {zs : List Int} {size : Int} {sign : Bool} (h : numEnd zs 0 ≠ zs.length) : numV zs size sign = none := by
  unfold numV goodN
  rw [if_neg (by rw [decide_eq_false h, Bool.and_false]; rintro ⟨h, _⟩; cases h)]
theorem numV_bad3 {zs : List Int} {size : Int} {sign : Bool} (h : ¬ (size = 1 ∨ size = 2 ∨ size = 4 ∨ size = 8)) : numV zs size sign = none := by
  unfold numV
  rw [if_neg (fun hh => h ((sized_iff size).1 hh.2.1))]
theorem numV_bad4 {zs : List Int} {size : Int} {sign : Bool} (h : ¬ decF 0 (digs zs) ≤ maxU) : numV zs size sign = none := by
  unfold numV
  rw [if_neg (fun hh => h hh.2.2.1)]
theorem numV_bad5 {zs : List Int} {size : Int} {sign : Bool} (h : fitsB (decF 0 (digs zs)) (stA zs (isC 45) 0) size sign = false) : numV zs size sign = none := by
  unfold numV
  rw [if_neg (fun hh => by have := hh.2.2.2; rw [h] at this; cases this)]
theorem numV_yes {zs : List Int} {size : Int} {sign : Bool} (h1 : numBad zs 0 = false) (h2 : numEnd zs 0 = zs.length) (h3 : size = 1 ∨ size = 2 ∨ size = 4 ∨ size = 8) (h4 : decF 0 (digs zs) ≤ maxU) (h5 : fitsB (decF 0 (digs zs)) (stA zs (isC 45) 0) size sign = true) :
    numV zs size sign = some (if stA zs (isC 45) 0 = true then (18446744073709551616 - decF 0 (digs zs)) % 18446744073709551616 else decF 0 (digs zs)) := by
  unfold numV
  rw [if_pos ⟨by unfold goodN; rw [h1, decide_eq_true h2]; rfl, (sized_iff size).2 h3, h4, h5⟩]
theorem below_bytes {B : Nat} {w W : World} (h : Below B w W) (hB : B ≤ W.heap.size) (e : TypeId) (s : ByteArray) : Below B w (Lib.bytesWorld W e s) := h.trans ((Lib.bytesWorld_below W e s).mono hB)
theorem bytes_new (w : World) (s : ByteArray) : Bytes (Lib.bytesWorld w 5 s) (some ⟨w.heap.size, 0, none⟩) (bts s) := by
  refine ⟨bts_bd s, fun _ => ⟨w.heap.size, 0, rfl, by rw [Lib.bytesWorld_size]; omega, fun i hi => ?_⟩⟩
  rw [bts_length] at hi
  rw [Nat.zero_add, Lib.bytesWorld_cell w _ s i hi]
  simp [bts, List.getD, hi]
theorem lexNumber_bad (s : ByteArray) (size : Int) (sign : Bool) (w : World) (hs : s.size ≤ 281474976710656) (h : numBad (bts s) 0 = true ∨ (numBad (bts s) 0 = false ∧ (numEnd (bts s) 0 ≠ s.size ∨ (numEnd (bts s) 0 = s.size ∧ ¬ (size = 1 ∨ size = 2 ∨ size = 4 ∨ size = 8))))) :
    Calls Tryd.prog 56 #[.string s, .int .i64 size, .bool sign] w fun e w' => e = .returned (.tuple #[.int .u64 0, .bool false]) ∧ Below w.heap.size w w' := by
  have kc := fun W => Lib.run_convert_string_bytes (P := Tryd.prog) W 9 22 5 s Tryd.underlying9 Tryd.underlying22 Tryd.underlying5
  have H := Lib.hid h
  clear h
  go_enter Tryd.func56, Tryd.ntmps56
  go_wp2_with fail
  refine (number_any _ s.size _ 0 _ (bts s) _ rfl (bytes_new w s) (bts_length s) hs (Nat.zero_le _)).mono ?_
  rintro e W1 ⟨rfl, hb1⟩
  have HB1 := Lib.hid ((below_bytes (Below.refl _ _) (Nat.le_refl _) 5 s).trans (hb1.mono (by rw [Lib.bytesWorld_size]; omega)))
  clear hb1
  rcases H.out with h | ⟨h, h2⟩
  · rw [show numVal (bts s) 0 = _ from if_pos h]
    clear h
    go_wp2
    go_ret2
    exact ⟨rfl, HB1.out⟩
  · rw [show numVal (bts s) 0 = _ from if_neg (by rw [h]; decide)]
    generalize numEnd (bts s) 0 = E at h2
    rcases h2 with h2 | ⟨h2, h3⟩
    · have t : ((E : Int) != (s.size : Int)) = true := by simp; omega
      clear h h2
      go_wp2
      go_ret2
      exact ⟨rfl, HB1.out⟩
    · have t : ((E : Int) != (s.size : Int)) = false := by simp; omega
      have H3 := Lib.hid h3
      clear h h2 h3
      go_wp2_with fail
      refine (sized_no size _ H3.out).mono ?_
      rintro e W2 ⟨rfl, rfl⟩
      go_wp2
      go_ret2
      exact ⟨rfl, HB1.out⟩
theorem digs_str (s : ByteArray) (h : goodN (bts s) = true) : ∃ d : ByteArray, (⟨(Lib.trimPrefix s.data.toList (ByteArray.mk #[45]).data.toList).toArray⟩ : ByteArray) = d ∧ d.size ≤ s.size ∧ Lib.parseUintB 64 d.data.toList = if decF 0 (digs (bts s)) ≤ maxU then .ok (decF 0 (digs (bts s))) else .range := by
  refine ⟨_, rfl, ?_, ?_⟩
  · have := trim_size s.data.toList (ByteArray.mk #[45]).data.toList
    have e1 : s.data.toList.length = s.size := by simp
    simp only [ByteArray.size, List.size_toArray]
    simp only [ByteArray.size] at e1
    omega
  · exact parse_digs s h
theorem neg_wrap (V : Nat) (h : (V : Int) ≤ 18446744073709551615) : IntKind.u64.wrap (-(V : Int)) = (((18446744073709551616 - V) % 18446744073709551616 : Nat) : Int) := by
  rw [IntKind.wrap_u64]
  omega
set_option maxHeartbeats 800000 in
theorem lexNumber_good (s : ByteArray) (size : Int) (sign : Bool) (w : World) (hE : ErrV w) (hs : s.size ≤ 281474976710656) (h1 : numBad (bts s) 0 = false) (h2 : numEnd (bts s) 0 = s.size) (h3 : size = 1 ∨ size = 2 ∨ size = 4 ∨ size = 8) :
    Calls Tryd.prog 56 #[.string s, .int .i64 size, .bool sign] w fun e w' => e = .returned (numR (numV (bts s) size sign)) ∧ Below w.heap.size w w' := by
  have kc := fun W => Lib.run_convert_string_bytes (P := Tryd.prog) W 9 22 5 s Tryd.underlying9 Tryd.underlying22 Tryd.underlying5
  obtain ⟨d, hd, hds, hp⟩ := digs_str s (by unfold goodN; rw [h1, decide_eq_true (by rw [h2, bts_length])]; rfl)
  have HY := Lib.hid (fun h4 h5 => numV_yes (sign := sign) h1 (by rw [h2, bts_length]) h3 h4 h5)
  have HB4 := Lib.hid (fun h => numV_bad4 (zs := bts s) (size := size) (sign := sign) h)
  have HB5 := Lib.hid (fun h => numV_bad5 (zs := bts s) (size := size) (sign := sign) h)
  have HC := Lib.hid (Tryd.strings_CutPrefix s (ByteArray.mk #[45]))
  have HM := Lib.hid (minus_prefix s)
  have HNV : Hid (numVal (bts s) 0 = .tuple #[.int .i64 (numEnd (bts s) 0 : Nat), .bool true]) := if_neg (by rw [h1]; decide)
  rw [h2] at HNV
  have H3 := Lib.hid h3
  have HD := Lib.hid hd
  have HP := Lib.hid hp
  have HEV := Lib.hid hE
  generalize numV (bts s) size sign = r at HY HB4 HB5 ⊢
  clear h1 h2 h3 hd hp hE
  go_enter Tryd.func56, Tryd.ntmps56
  go_wp2_with fail
  refine (number_any _ s.size _ 0 _ (bts s) _ rfl (bytes_new w s) (bts_length s) hs (Nat.zero_le _)).mono ?_
  rintro e W1 ⟨rfl, hb1⟩
  have HB1 := Lib.hid ((below_bytes (Below.refl _ _) (Nat.le_refl _) 5 s).trans (hb1.mono (by rw [Lib.bytesWorld_size]; omega)))
  clear hb1
  rw [HNV.out]
  have t : ((s.size : Int) != (s.size : Int)) = false := by simp
  go_wp2_with fail
  refine (sized_yes size _ H3.out).mono ?_
  rintro e W2 ⟨rfl, rfl⟩
  go_wp2_with fail
  refine (HC.out W1).mono ?_
  rintro e W3 ⟨rfl, rfl⟩
  rw [HM.out, HD.out]
  generalize stA (bts s) (isC 45) 0 = b at HY HB5 ⊢
  generalize decF 0 (digs (bts s)) = V at HY HB4 HB5 HP
  by_cases hV : V ≤ maxU
  · have hP := HP.out
    rw [if_pos hV] at hP
    have HP' := Lib.hid hP
    have HV := Lib.hid hV
    have hv1 : (V : Int) ≤ 18446744073709551615 := Int.ofNat_le.2 hV
    clear hV hP
    go_wp2_with fail
    refine (Tryd.strconv_ParseUint_10_at64_ok d (by omega) V HP'.out W3).mono ?_
    rintro e W4 ⟨rfl, hw⟩
    have HB4' : Hid (Below w.heap.size w W4) := by
      rcases hw with rfl | rfl
      · exact HB1.out
      · exact below_bytes HB1.out HB1.out.size _ _
    clear hw
    go_wp2_with fail
    refine (fits_any V b size sign _ (by omega) H3.out).mono ?_
    rintro e W5 ⟨rfl, rfl⟩
    cases hf : fitsB (V : Int) b size sign
    · have HR := Lib.hid (HB5.out hf)
      clear hf
      go_wp2
      go_ret2
      exact ⟨by rw [HR.out]; rfl, HB4'.out⟩
    · have HR := Lib.hid (HY.out HV.out hf)
      clear hf
      cases b
      · rw [if_neg (by decide)] at HR
        go_wp2
        go_ret2
        exact ⟨by rw [HR.out]; rfl, HB4'.out⟩
      · rw [if_pos rfl] at HR
        go_wp2
        go_ret2
        exact ⟨(ret_int_bool (neg_wrap V hv1)).trans (by rw [HR.out]; rfl), HB4'.out⟩
  · have hP := HP.out
    rw [if_neg hV] at hP
    have HP' := Lib.hid hP
    have HR := Lib.hid (HB4.out hV)
    obtain ⟨te, ev, hev⟩ := HEV.out.later HB1.out
    have HX := Lib.hid hev
    clear hV hP hev
    go_wp2_with fail
    refine (Tryd.strconv_ParseUint_10_at64_range d (by omega) HP'.out _ W3 HX.out (.inr ⟨te, ev, rfl⟩)).mono ?_
    rintro e W4 ⟨N, rfl, hN, hN2, hb⟩
    clear hN hN2
    go_wp2
    go_ret2
    exact ⟨by rw [HR.out]; rfl, HB1.out.trans (hb.mono HB1.out.size)⟩
/-- The package lex's Number, whatever the text and the size. -/
theorem lexNumber_any (s : ByteArray) (size : Int) (sign : Bool) (w : World) (hE : ErrV w) (hs : s.size ≤ 281474976710656) :
    Calls Tryd.prog 56 #[.string s, .int .i64 size, .bool sign] w fun e w' => e = .returned (numR (numV (bts s) size sign)) ∧ Below w.heap.size w w' := by
  cases h1 : numBad (bts s) 0
  · by_cases h2 : numEnd (bts s) 0 = s.size
    · by_cases h3 : size = 1 ∨ size = 2 ∨ size = 4 ∨ size = 8
      · exact lexNumber_good s size sign w hE hs h1 h2 h3
      · rw [numV_bad3 h3]
        exact lexNumber_bad s size sign w hs (.inr ⟨h1, .inr ⟨h2, h3⟩⟩)
    · rw [numV_bad2 (by rw [bts_length]; exact h2)]
      exact lexNumber_bad s size sign w hs (.inr ⟨h1, .inl h2⟩)
  · rw [numV_bad1 h1]
    exact lexNumber_bad s size sign w hs (.inl h1)
end Go.Proofs.YtneadcbadnicfaaDoor
