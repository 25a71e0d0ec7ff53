/-
  The kinds of bytes of the package lex that its own functions name: those that a text has, blanks, digits, letters, a minus, a quote, what may stand between quotes. Conditions: those that each theorem names.
-/
import Derived.Test.YtneadcbadnicfaaDoorKinds
import Derived.Test.YtneadcbadnicfaaDoorShIdx
import Derived.Test.YtneadcbadnicfaaDoorLexPlain
namespace Go.Proofs.YtneadcbadnicfaaDoor
open Go.ChangeShapes Go.WideShapes Go.ChangeAt Go.RowKit Go.Shelf

/-- A string's bytes. -/
def bts (s : ByteArray) : List Int := s.data.toList.map fun b => (b.toNat : Int)
/-- Is a byte among those of a string? -/
def amg (s : ByteArray) (c : Int) : Bool := decide (c ∈ bts s)
theorem bts_length (s : ByteArray) : (bts s).length = s.size := by simp [bts]
theorem bts_bd (s : ByteArray) : ∀ i, 0 ≤ (bts s).getD i 0 ∧ (bts s).getD i 0 ≤ 255 := by
  intro i
  by_cases hi : i < s.size
  · have hi' : i < s.data.toList.length := by simpa using hi
    have h : (bts s).getD i 0 = (s.data.toList[i].toNat : Int) := by
      simp [bts, List.getD, List.getElem?_map, List.getElem?_eq_getElem hi']
    have := s.data.toList[i].toNat_lt
    rw [h]
    omega
  · have : (bts s).getD i 0 = 0 := by
      rw [List.getD, List.getElem?_eq_none (by rw [bts_length]; omega)]
      rfl
    rw [this]
    omega
theorem indexByte_mem (l : List UInt8) (c : UInt8) : (0 ≤ Lib.indexByte l c) = (c ∈ l) := by
  induction l with
  | nil => simp [Lib.indexByte]
  | cons a r ih =>
    simp only [Lib.indexByte]
    by_cases h : a = c
    · subst h
      simp
    · have hb : (a == c) = false := by simpa using h
      rw [hb]
      simp only [Bool.false_eq_true, if_false, List.mem_cons, show (c = a) = False from by simp; exact fun e => h e.symm, false_or]
      rw [← ih]
      by_cases h1 : Lib.indexByte r c = -1
      · simp [h1]
      · have hb1 : (Lib.indexByte r c == -1) = false := by simpa using h1
        have := Lib.indexByte_ge r c
        rw [hb1]
        simp only [Bool.false_eq_true, if_false, eq_iff_iff]
        omega
theorem amg_index (s : ByteArray) (c : Int) (h0 : 0 ≤ c) (h1 : c ≤ 255) : decide (0 ≤ Lib.indexByte s.data.toList c.toNat.toUInt8) = amg s c := by
  unfold amg
  rw [decide_eq_decide, indexByte_mem]
  unfold bts
  rw [List.mem_map]
  constructor
  · intro h
    refine ⟨_, h, ?_⟩
    simp
    omega
  · rintro ⟨b, hb, rfl⟩
    simpa using hb
theorem among1 (W : World) (B : Nat) (s : ByteArray) (c : Int) (hc0 : 0 ≤ c) (hc1 : c ≤ 255) (hB : W.cell? ⟨B, 0, none⟩ = some (.string s)) :
    Calls Tryd.prog 83 #[.int .u8 c, .pointer (some ⟨B, 0, none⟩)] W fun e w' => e = .returned (.bool (amg s c)) ∧ Below W.heap.size W w' := by
  have H := Lib.hid (Tryd.strings_IndexByte s c)
  have E := Lib.hid (amg_index s c hc0 hc1)
  generalize amg s c = x at E ⊢
  generalize Lib.indexByte s.data.toList c.toNat.toUInt8 = y at E H
  go_enter Tryd.func83, Tryd.ntmps83
  go_wp2_with fail
  refine (H.out _).mono ?_
  rintro e W1 ⟨rfl, rfl⟩
  go_wp2
  go_ret
  exact ⟨ret_bool E.out, Below.refl _ _⟩
theorem among_any (s : ByteArray) (w : World) :
    Calls Tryd.prog 76 #[.string s] w fun e w' => ∃ v, e = .returned v ∧ Below w.heap.size w w' ∧ KindV w' v (amg s) := by
  go_enter Tryd.func76, Tryd.ntmps76
  go_wp2
  go_ret
  refine ⟨_, rfl, (Below.refl _ _).alloc (Nat.le_refl _) _, _, _, rfl, enters_of Tryd.func83 (by kernel_rfl) rfl, fun W c h0 h1 hb => ?_⟩
  have hk : W.cell? ⟨w.heap.size, 0, none⟩ = _ := hb.cell (p := ⟨w.heap.size, 0, none⟩) (by simp)
  refine among1 W _ s c h0 h1 (hk.trans ?_)
  simp [go_sem]
theorem KindV.congr {w : World} {v : Value} {p q : Int → Bool} (h : KindV w v p) (hpq : ∀ c, 0 ≤ c → c ≤ 255 → p c = q c) : KindV w v q := by
  obtain ⟨g, lb, rfl, h⟩ := h
  exact ⟨g, lb, rfl, h.congr hpq⟩
theorem KindV.later {w W : World} {v : Value} {p : Int → Bool} (h : KindV w v p) (hb : Below w.heap.size w W) : KindV W v p := by
  obtain ⟨g, lb, rfl, h⟩ := h
  exact ⟨g, lb, rfl, h.later hb⟩
theorem minus_any (w : World) : Calls Tryd.prog 72 #[] w fun e w' => ∃ v, e = .returned v ∧ Below w.heap.size w w' ∧ KindV w' v (isC 45) := by
  have H := Lib.hid (among_any ⟨#[45]⟩)
  go_enter Tryd.func72, Tryd.ntmps72
  go_wp2_with fail
  refine (H.out _).mono ?_
  rintro e W1 ⟨v, rfl, hb, hk⟩
  have HK := Lib.hid hk
  have HB := Lib.hid hb
  clear hk hb
  go_wp2
  go_ret
  exact ⟨_, rfl, HB.out, HK.out.congr fun c _ _ => by simp [amg, bts, isC]⟩
theorem digit_any (w : World) : Calls Tryd.prog 74 #[] w fun e w' => ∃ v, e = .returned v ∧ Below w.heap.size w w' ∧ KindV w' v isDig := by
  have H := Lib.hid (between_any 48 57)
  go_enter Tryd.func74, Tryd.ntmps74
  go_wp2_with fail
  refine (H.out _).mono ?_
  rintro e W1 ⟨v, rfl, hb, hk⟩
  have HK := Lib.hid hk
  have HB := Lib.hid hb
  clear hk hb
  go_wp2
  go_ret
  exact ⟨_, rfl, HB.out, HK.out.congr fun c _ _ => rfl⟩
theorem letter_any (w : World) : Calls Tryd.prog 75 #[] w fun e w' => ∃ v, e = .returned v ∧ Below w.heap.size w w' ∧ KindV w' v isLet := by
  go_enter Tryd.func75, Tryd.ntmps75
  go_wp2_with fail
  refine (among_any ⟨#[95]⟩ _).mono ?_
  rintro e W1 ⟨v1, rfl, hb1, hk1⟩
  have HK1 := Lib.hid hk1
  have HB1 := Lib.hid hb1
  clear hk1 hb1
  go_wp2_with fail
  refine (between_any 97 122 _).mono ?_
  rintro e W2 ⟨v2, rfl, hb2, hk2⟩
  have HK2 := Lib.hid hk2
  have HB2 := Lib.hid hb2
  clear hk2 hb2
  go_wp2_with fail
  refine (between_any 65 90 _).mono ?_
  rintro e W3 ⟨v3, rfl, hb3, hk3⟩
  have HK3 := Lib.hid hk3
  have HB3 := Lib.hid hb3
  clear hk3 hb3
  go_wp2_with fail
  refine (either_any v2 v3 _ _ _ (HK2.out.later HB3.out) HK3.out).mono ?_
  rintro e W4 ⟨v4, rfl, hb4, hk4⟩
  have HK4 := Lib.hid hk4
  have HB4 := Lib.hid hb4
  clear hk4 hb4
  go_wp2_with fail
  refine (either_any v1 v4 _ _ _ ((HK1.out.later HB2.out).later (HB3.out.trans (HB4.out.mono HB3.out.size))) HK4.out).mono ?_
  rintro e W5 ⟨v5, rfl, hb5, hk5⟩
  have HK5 := Lib.hid hk5
  have HB5 := Lib.hid hb5
  clear hk5 hb5
  go_wp2
  go_ret
  refine ⟨_, rfl, ?_, HK5.out.congr fun c _ _ => ?_⟩
  · have h4 := HB4.out.trans (HB5.out.mono HB4.out.size)
    have h3 := HB3.out.trans (h4.mono HB3.out.size)
    have h2 := HB2.out.trans (h3.mono HB2.out.size)
    exact HB1.out.trans (h2.mono HB1.out.size)
  · simp [amg, bts, isLet, betw]
end Go.Proofs.YtneadcbadnicfaaDoor
