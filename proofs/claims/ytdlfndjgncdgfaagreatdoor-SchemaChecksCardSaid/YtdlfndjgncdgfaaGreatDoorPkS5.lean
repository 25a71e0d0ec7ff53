/-
  The document's own Decimal: a number's digits. Conditions: those that each theorem names.
-/
import Derived.Test.YtdlfndjgncdgfaaGreatDoorPkS1
import Derived.Test.YtdlfndjgncdgfaaGreatDoorPkS2
import Derived.Lib.ParseIntB
import Derived.Laws.BitsLemmas
import Derived.IntWalk
import Derived.Laws.BytesArg
namespace Go.Proofs.YtdlfndjgncdgfaaGreatDoor
open Go.ChangeShapes Go.WideShapes Go.ChangeAt Go.RowKit Go.Shelf

def bts (s : ByteArray) : List Int := s.data.toList.map fun b => (b.toNat : Int)
def amg (s : ByteArray) (c : Int) : Bool := decide (c ∈ bts s)
theorem bts_length (s : ByteArray) : (bts s).length = s.size := by simp [bts]
theorem bts_bd (s : ByteArray) : ∀ i, 0 ≤ (bts s).getD i 0 ∧ (bts s).getD i 0 ≤ 255 := by
  intro i
  by_cases hi : i < s.size
  · have hi' : i < s.data.toList.length := by simpa using hi
    have h : (bts s).getD i 0 = (s.data.toList[i].toNat : Int) := by
      simp [bts, List.getD, List.getElem?_map, List.getElem?_eq_getElem hi']
    have := s.data.toList[i].toNat_lt
    rw [h]
    omega
  · have : (bts s).getD i 0 = 0 := by
      rw [List.getD, List.getElem?_eq_none (by rw [bts_length]; omega)]
      rfl
    rw [this]
    omega
theorem indexByte_mem (l : List UInt8) (c : UInt8) : (0 ≤ Lib.indexByte l c) = (c ∈ l) := by
  induction l with
  | nil => simp [Lib.indexByte]
  | cons a r ih =>
    simp only [Lib.indexByte]
    by_cases h : a = c
    · subst h
      simp
    · have hb : (a == c) = false := by simpa using h
      rw [hb]
      simp only [Bool.false_eq_true, if_false, List.mem_cons, show (c = a) = False from by simp; exact fun e => h e.symm, false_or]
      rw [← ih]
      by_cases h1 : Lib.indexByte r c = -1
      · simp [h1]
      · have hb1 : (Lib.indexByte r c == -1) = false := by simpa using h1
        have := Lib.indexByte_ge r c
        rw [hb1]
        simp only [Bool.false_eq_true, if_false, eq_iff_iff]
        omega
theorem amg_index (s : ByteArray) (c : Int) (h0 : 0 ≤ c) (h1 : c ≤ 255) : decide (0 ≤ Lib.indexByte s.data.toList c.toNat.toUInt8) = amg s c := by
  unfold amg
  rw [decide_eq_decide, indexByte_mem]
  unfold bts
  rw [List.mem_map]
  constructor
  · intro h
    refine ⟨_, h, ?_⟩
    simp
    omega
  · rintro ⟨b, hb, rfl⟩
    simpa using hb
theorem among1 (W : World) (B : Nat) (s : ByteArray) (c : Int) (hc0 : 0 ≤ c) (hc1 : c ≤ 255) (hB : W.cell? ⟨B, 0, none⟩ = some (.string s)) :
    Calls Tryz.prog 115 #[.int .u8 c, .pointer (some ⟨B, 0, none⟩)] W fun e w' => e = .returned (.bool (amg s c)) ∧ Below W.heap.size W w' := by
  have H := Lib.hid (Tryz.strings_IndexByte s c)
  have E := Lib.hid (amg_index s c hc0 hc1)
  generalize amg s c = x at E ⊢
  generalize Lib.indexByte s.data.toList c.toNat.toUInt8 = y at E H
  go_enter Tryz.func115, Tryz.ntmps115
  go_wp2_with fail
  refine (H.out _).mono ?_
  rintro e W1 ⟨rfl, rfl⟩
  go_wp2
  go_ret
  exact ⟨ret_bool E.out, Below.refl _ _⟩
theorem among_any (s : ByteArray) (w : World) :
    Calls Tryz.prog 81 #[.string s] w fun e w' => ∃ v, e = .returned v ∧ Below w.heap.size w w' ∧ KindV w' v (amg s) := by
  go_enter Tryz.func81, Tryz.ntmps81
  go_wp2
  go_ret
  refine ⟨_, rfl, (Below.refl _ _).alloc (Nat.le_refl _) _, _, _, rfl, enters_of Tryz.func115 (by kernel_rfl) rfl, fun W c h0 h1 hb => ?_⟩
  have hk : W.cell? ⟨w.heap.size, 0, none⟩ = _ := hb.cell (p := ⟨w.heap.size, 0, none⟩) (by simp)
  refine among1 W _ s c h0 h1 (hk.trans ?_)
  simp [go_sem]
theorem KindV.congr {w : World} {v : Value} {p q : Int → Bool} (h : KindV w v p) (hpq : ∀ c, 0 ≤ c → c ≤ 255 → p c = q c) : KindV w v q := by
  obtain ⟨g, lb, rfl, h⟩ := h
  exact ⟨g, lb, rfl, h.congr hpq⟩
theorem KindV.later {w W : World} {v : Value} {p : Int → Bool} (h : KindV w v p) (hb : Below w.heap.size w W) : KindV W v p := by
  obtain ⟨g, lb, rfl, h⟩ := h
  exact ⟨g, lb, rfl, h.later hb⟩
theorem blank_any (w : World) : Calls Tryz.prog 104 #[] w fun e w' => ∃ v, e = .returned v ∧ Below w.heap.size w w' ∧ KindV w' v isBlank := by
  have H := Lib.hid (among_any ⟨#[32, 9, 10, 13]⟩)
  go_enter Tryz.func104, Tryz.ntmps104
  go_wp2_with fail
  refine (H.out _).mono ?_
  rintro e W1 ⟨v, rfl, hb, hk⟩
  have HK := Lib.hid hk
  have HB := Lib.hid hb
  clear hk hb
  go_wp2
  go_ret
  exact ⟨_, rfl, HB.out, HK.out.congr fun c _ _ => by simp [amg, bts, isBlank]⟩
theorem minus_any (w : World) : Calls Tryz.prog 135 #[] w fun e w' => ∃ v, e = .returned v ∧ Below w.heap.size w w' ∧ KindV w' v (isC 45) := by
  have H := Lib.hid (among_any ⟨#[45]⟩)
  go_enter Tryz.func135, Tryz.ntmps135
  go_wp2_with fail
  refine (H.out _).mono ?_
  rintro e W1 ⟨v, rfl, hb, hk⟩
  have HK := Lib.hid hk
  have HB := Lib.hid hb
  clear hk hb
  go_wp2
  go_ret
  exact ⟨_, rfl, HB.out, HK.out.congr fun c _ _ => by simp [amg, bts, isC]⟩
theorem quote_any (w : World) : Calls Tryz.prog 113 #[] w fun e w' => ∃ v, e = .returned v ∧ Below w.heap.size w w' ∧ KindV w' v (isC 34) := by
  have H := Lib.hid (among_any ⟨#[34]⟩)
  go_enter Tryz.func113, Tryz.ntmps113
  go_wp2_with fail
  refine (H.out _).mono ?_
  rintro e W1 ⟨v, rfl, hb, hk⟩
  have HK := Lib.hid hk
  have HB := Lib.hid hb
  clear hk hb
  go_wp2
  go_ret
  exact ⟨_, rfl, HB.out, HK.out.congr fun c _ _ => by simp [amg, bts, isC]⟩
theorem digit_any (w : World) : Calls Tryz.prog 110 #[] w fun e w' => ∃ v, e = .returned v ∧ Below w.heap.size w w' ∧ KindV w' v isDig := by
  have H := Lib.hid (between_any 48 57)
  go_enter Tryz.func110, Tryz.ntmps110
  go_wp2_with fail
  refine (H.out _).mono ?_
  rintro e W1 ⟨v, rfl, hb, hk⟩
  have HK := Lib.hid hk
  have HB := Lib.hid hb
  clear hk hb
  go_wp2
  go_ret
  exact ⟨_, rfl, HB.out, HK.out.congr fun c _ _ => rfl⟩
theorem letter_any (w : World) : Calls Tryz.prog 108 #[] w fun e w' => ∃ v, e = .returned v ∧ Below w.heap.size w w' ∧ KindV w' v isLet := by
  go_enter Tryz.func108, Tryz.ntmps108
  go_wp2_with fail
  refine (among_any ⟨#[95]⟩ _).mono ?_
  rintro e W1 ⟨v1, rfl, hb1, hk1⟩
  have HK1 := Lib.hid hk1
  have HB1 := Lib.hid hb1
  clear hk1 hb1
  go_wp2_with fail
  refine (between_any 97 122 _).mono ?_
  rintro e W2 ⟨v2, rfl, hb2, hk2⟩
  have HK2 := Lib.hid hk2
  have HB2 := Lib.hid hb2
  clear hk2 hb2
  go_wp2_with fail
  refine (between_any 65 90 _).mono ?_
  rintro e W3 ⟨v3, rfl, hb3, hk3⟩
  have HK3 := Lib.hid hk3
  have HB3 := Lib.hid hb3
  clear hk3 hb3
  go_wp2_with fail
  refine (either_any v2 v3 _ _ _ (HK2.out.later HB3.out) HK3.out).mono ?_
  rintro e W4 ⟨v4, rfl, hb4, hk4⟩
  have HK4 := Lib.hid hk4
  have HB4 := Lib.hid hb4
  clear hk4 hb4
  go_wp2_with fail
  refine (either_any v1 v4 _ _ _ ((HK1.out.later HB2.out).later (HB3.out.trans (HB4.out.mono HB3.out.size))) HK4.out).mono ?_
  rintro e W5 ⟨v5, rfl, hb5, hk5⟩
  have HK5 := Lib.hid hk5
  have HB5 := Lib.hid hb5
  clear hk5 hb5
  go_wp2
  go_ret
  refine ⟨_, rfl, ?_, HK5.out.congr fun c _ _ => ?_⟩
  · have h4 := HB4.out.trans (HB5.out.mono HB4.out.size)
    have h3 := HB3.out.trans (h4.mono HB3.out.size)
    have h2 := HB2.out.trans (h3.mono HB2.out.size)
    exact HB1.out.trans (h2.mono HB1.out.size)
  · simp [amg, bts, isLet, betw]
theorem plain_any (w : World) : Calls Tryz.prog 136 #[] w fun e w' => ∃ v, e = .returned v ∧ Below w.heap.size w w' ∧ KindV w' v isPlain := by
  go_enter Tryz.func136, Tryz.ntmps136
  go_wp2_with fail
  refine (among_any ⟨#[34, 92, 127]⟩ _).mono ?_
  rintro e W1 ⟨v1, rfl, hb1, hk1⟩
  have HK1 := Lib.hid hk1
  have HB1 := Lib.hid hb1
  clear hk1 hb1
  go_wp2_with fail
  refine (between_any 0 31 _).mono ?_
  rintro e W2 ⟨v2, rfl, hb2, hk2⟩
  have HK2 := Lib.hid hk2
  have HB2 := Lib.hid hb2
  clear hk2 hb2
  go_wp2_with fail
  refine (either_any v1 v2 _ _ _ (HK1.out.later HB2.out) HK2.out).mono ?_
  rintro e W4 ⟨v4, rfl, hb4, hk4⟩
  have HK4 := Lib.hid hk4
  have HB4 := Lib.hid hb4
  clear hk4 hb4
  go_wp2_with fail
  refine (but_any v4 _ _ HK4.out).mono ?_
  rintro e W5 ⟨v5, rfl, hb5, hk5⟩
  have HK5 := Lib.hid hk5
  have HB5 := Lib.hid hb5
  clear hk5 hb5
  go_wp2
  go_ret
  refine ⟨_, rfl, ?_, HK5.out.congr fun c _ _ => ?_⟩
  · have h4 := HB4.out.trans (HB5.out.mono HB4.out.size)
    have h2 := HB2.out.trans (h4.mono HB2.out.size)
    exact HB1.out.trans (h2.mono HB1.out.size)
  · unfold isPlain
    rw [Bool.eq_iff_iff]
    simp [amg, bts, betw]
    omega
end Go.Proofs.YtdlfndjgncdgfaaGreatDoor
namespace Go.Proofs.YtdlfndjgncdgfaaGreatDoor
open Go.RowKit

def dstep (a : Nat) (c : Int) : Nat := a * 10 + (c.toNat - 48)
def decF (acc : Nat) (ds : List Int) : Nat := ds.foldl dstep acc
def maxU : Nat := 18446744073709551615
theorem decF_nil (acc : Nat) : decF acc [] = acc := rfl
theorem decF_cons (acc : Nat) (c : Int) (r : List Int) : decF acc (c :: r) = decF (dstep acc c) r := List.foldl_cons ..
theorem decF_ge (ds : List Int) : ∀ acc : Nat, acc ≤ decF acc ds := by
  induction ds with
  | nil => intro acc; rw [decF_nil]; exact Nat.le_refl acc
  | cons c r ih =>
    intro acc
    rw [decF_cons]
    have := ih (dstep acc c)
    have h2 : acc ≤ dstep acc c := by unfold dstep; omega
    omega
theorem parseUintM_dec (M : Nat) (hM : M = maxU) (l : List UInt8) : ∀ acc : Nat, (∀ b ∈ l, 48 ≤ b.toNat ∧ b.toNat ≤ 57) → acc ≤ maxU →
    Lib.parseUintM M acc l = if decF acc (l.map fun b => (b.toNat : Int)) ≤ maxU then .ok (decF acc (l.map fun b => (b.toNat : Int))) else .range := by
  induction l with
  | nil =>
    intro acc _ ha
    rw [List.map_nil, decF_nil, if_pos ha]
    rfl
  | cons b r ih =>
    intro acc hd ha
    have hb := hd b List.mem_cons_self
    rw [List.map_cons, decF_cons, show dstep acc (b.toNat : Int) = acc * 10 + (b.toNat - 48) from by unfold dstep; rw [Int.toNat_natCast]]
    have hge := decF_ge (r.map fun b => (b.toNat : Int)) (acc * 10 + (b.toNat - 48))
    simp only [Lib.parseUintM]
    rw [if_pos hb]
    by_cases h1 : 1844674407370955162 ≤ acc
    · rw [if_pos h1, if_neg (by unfold maxU; omega)]
    · rw [if_neg h1]
      by_cases h2 : M < acc * 10 + (b.toNat - 48)
      · rw [if_pos h2, if_neg (by omega)]
      · rw [if_neg h2]
        exact ih _ (fun x hx => hd x (List.mem_cons_of_mem _ hx)) (by omega)
theorem maxU_eq : 2 ^ 64 - 1 = maxU := by decide
theorem parseUintB_dec (l : List UInt8) (hne : l ≠ []) (hd : ∀ b ∈ l, 48 ≤ b.toNat ∧ b.toNat ≤ 57) :
    Lib.parseUintB 64 l = if decF 0 (l.map fun b => (b.toNat : Int)) ≤ maxU then .ok (decF 0 (l.map fun b => (b.toNat : Int))) else .range := by
  unfold Lib.parseUintB
  rw [if_neg hne]
  exact parseUintM_dec _ maxU_eq l 0 hd (Nat.zero_le _)

def goodN (zs : List Int) : Bool := !numBad zs 0 && decide (numEnd zs 0 = zs.length)
def digs (zs : List Int) : List Int := if stA zs (isC 45) 0 = true then zs.drop 1 else zs
theorem digs_drop (zs : List Int) : digs zs = zs.drop (minusTo zs 0) := by
  unfold digs minusTo
  split <;> simp
theorem good_digs {zs : List Int} (h : goodN zs = true) : digs zs ≠ [] ∧ ∀ c ∈ digs zs, 48 ≤ c ∧ c ≤ 57 := by
  unfold goodN at h
  rw [Bool.and_eq_true, Bool.not_eq_true', decide_eq_true_iff] at h
  obtain ⟨h1, h2⟩ := h
  have h0 : decide (runTo zs isDig (minusTo zs 0) - minusTo zs 0 = 0) = false := by
    unfold numBad at h1
    rw [Bool.or_eq_false_iff, Bool.or_eq_false_iff, Bool.or_eq_false_iff] at h1
    exact h1.1.1.1
  have h0' := of_decide_eq_false h0
  unfold numEnd at h2
  rw [digs_drop]
  constructor
  · intro he
    have := congrArg List.length he
    rw [List.length_drop, List.length_nil] at this
    omega
  · intro c hc
    obtain ⟨j, hj, rfl⟩ := List.mem_iff_getElem.1 hc
    rw [List.length_drop] at hj
    have := runTo_all zs isDig (minusTo zs 0) (minusTo zs 0 + j) (by omega) (by omega)
    have hp := of_decide_eq_true (show decide (48 ≤ zs.getD (minusTo zs 0 + j) 0 ∧ zs.getD (minusTo zs 0 + j) 0 ≤ 57) = true from stA_p this)
    have he : zs.getD (minusTo zs 0 + j) 0 = (zs.drop (minusTo zs 0))[j]'(by rw [List.length_drop]; omega) := by
      rw [List.getElem_drop]
      simp [List.getD, show minusTo zs 0 + j < zs.length by omega]
    rw [he] at hp
    exact hp
theorem minusTo_cases (zs : List Int) : (stA zs (isC 45) 0 = true ∧ minusTo zs 0 = 1 ∧ 1 ≤ zs.length ∧ zs.getD 0 0 = 45) ∨ (stA zs (isC 45) 0 = false ∧ minusTo zs 0 = 0) := by
  unfold minusTo
  cases h : stA zs (isC 45) 0
  · exact .inr ⟨rfl, by simp⟩
  · refine .inl ⟨rfl, by simp, stA_lt h, ?_⟩
    exact of_decide_eq_true (show decide (zs.getD 0 0 = 45) = true from stA_p h)
theorem digs_length (zs : List Int) : (digs zs).length = zs.length - minusTo zs 0 := by rw [digs_drop, List.length_drop]
theorem digs_get (zs : List Int) (j : Nat) : (digs zs).getD j 0 = zs.getD (minusTo zs 0 + j) 0 := by
  rw [digs_drop]
  simp [List.getD]
theorem goodN_iff (zs : List Int) : goodN zs = true ↔ (1 ≤ (digs zs).length ∧ (digs zs).length ≤ 20 ∧ ¬ (1 < (digs zs).length ∧ (digs zs).getD 0 0 = 48) ∧ zs ≠ [45, 48] ∧ ∀ j, j < (digs zs).length → isDig ((digs zs).getD j 0) = true) := by
  rw [digs_length]
  have hm := minusTo_cases zs
  unfold goodN numEnd
  rw [Bool.and_eq_true, Bool.not_eq_true', decide_eq_true_iff]
  constructor
  · rintro ⟨h1, h2⟩
    unfold numBad at h1
    rw [Bool.or_eq_false_iff, Bool.or_eq_false_iff, Bool.or_eq_false_iff, h2, decide_eq_false_iff_not, decide_eq_false_iff_not] at h1
    obtain ⟨⟨⟨a1, a2⟩, _⟩, a4⟩ := h1
    have hz : ∀ (_ : 1 ≤ zs.length - minusTo zs 0) (_ : zs.getD (minusTo zs 0) 0 = 48), stA zs (isC 48) (minusTo zs 0) = true := fun hl he => by
      rw [stA_of (by omega)]
      exact decide_eq_true he
    unfold zeroAhead at a4
    rw [h2] at a4
    refine ⟨by omega, by omega, ?_, ?_, ?_⟩
    · rintro ⟨b1, b2⟩
      rw [digs_get, Nat.add_zero] at b2
      rw [hz (by omega) b2, decide_eq_true b1, Bool.or_true] at a4
      cases a4
    · rintro rfl
      exact absurd a4 (by decide)
    · intro j hj
      rw [digs_get]
      exact stA_p (runTo_all zs isDig (minusTo zs 0) (minusTo zs 0 + j) (by omega) (by omega))
  · rintro ⟨b1, b2, b3, b4, b5⟩
    have hE : runTo zs isDig (minusTo zs 0) = zs.length := by
      refine runTo_unique (by omega) (fun j h1 h2 => ?_) (stA_ge (Nat.le_refl _))
      rw [stA_of h2]
      have := b5 (j - minusTo zs 0) (by omega)
      rw [digs_get, show minusTo zs 0 + (j - minusTo zs 0) = j by omega] at this
      exact this
    refine ⟨?_, hE⟩
    unfold numBad zeroAhead
    rw [hE, decide_eq_false (by omega), decide_eq_false (by omega), stA_ge (Nat.le_refl _)]
    simp only [Bool.false_or]
    cases h48 : stA zs (isC 48) (minusTo zs 0)
    · rfl
    · have h48' : zs.getD (minusTo zs 0) 0 = 48 := of_decide_eq_true (show decide (zs.getD (minusTo zs 0) 0 = 48) = true from stA_p h48)
      have c1 : ¬ 1 < zs.length - minusTo zs 0 := fun h => b3 ⟨h, by rw [digs_get, Nat.add_zero]; exact h48'⟩
      rw [decide_eq_false c1, Bool.or_false, Bool.true_and]
      rcases hm with ⟨m1, m2, m3, m4⟩ | ⟨m1, m2⟩
      · exfalso
        apply b4
        rw [m2] at h48' b1 c1
        match zs, b1, c1, m4, h48' with
        | [a, b], _, _, m4, h48' =>
          simp at m4 h48'
          rw [m4, h48']
        | a :: b :: c :: r, _, c1, _, _ => simp at c1
        | [_], b1, _, _, _ => simp at b1
        | [], b1, _, _, _ => simp at b1
      · exact m1
def sizedB (size : Int) : Bool := decide (size = 1 ∨ size = 2 ∨ size = 4 ∨ size = 8)
def span (size : Int) : Int := if size = 1 then 256 else if size = 2 then 65536 else if size = 4 then 4294967296 else 18446744073709551616
def fitsB (v : Int) (below : Bool) (size : Int) (sign : Bool) : Bool :=
  if sign = true then decide (v < span size / 2) || (below && decide (v = span size / 2)) else !below && decide (v < span size)
def numV (zs : List Int) (size : Int) (sign : Bool) : Option Nat :=
  if goodN zs = true ∧ sizedB size = true ∧ decF 0 (digs zs) ≤ maxU ∧ fitsB (decF 0 (digs zs)) (stA zs (isC 45) 0) size sign = true then
    some (if stA zs (isC 45) 0 = true then (18446744073709551616 - decF 0 (digs zs)) % 18446744073709551616 else decF 0 (digs zs))
  else none
end Go.Proofs.YtdlfndjgncdgfaaGreatDoor
namespace Go.Proofs.YtdlfndjgncdgfaaGreatDoor
open Go.ChangeShapes Go.WideShapes Go.ChangeAt Go.RowKit Go.Shelf

theorem bts_get {s : ByteArray} {i : Nat} (h : i < s.size) : (bts s).getD i 0 = (s[i].toNat : Int) := by
  simp [bts, List.getD, h]
  rfl
theorem bts_end {s : ByteArray} {i : Nat} (h : s.size ≤ i) : (bts s).getD i 0 = 0 := by
  rw [List.getD, List.getElem?_eq_none (by rw [bts_length]; exact h)]
  rfl
theorem at_any (s : ByteArray) (x : Int) (i : Nat) (w : World) (hx : x = i) :
    Calls Tryz.prog 96 #[.string s, .int .i64 x] w fun e w' => e = .returned (.int .u8 ((bts s).getD i 0)) ∧ w = w' := by
  subst hx
  by_cases hi : i < s.size
  · rw [bts_get hi]
    go_enter Tryz.func96, Tryz.ntmps96
    go_wp2
    go_ret
    exact ⟨rfl, rfl⟩
  · rw [bts_end (by omega)]
    go_enter Tryz.func96, Tryz.ntmps96
    go_wp2
    go_ret
    exact ⟨rfl, rfl⟩
theorem rdigit_any (c : Int) (w : World) : Calls Tryz.prog 98 #[.int .u8 c] w fun e w' => e = .returned (.bool (isDig c)) ∧ w = w' := by
  by_cases h1 : 48 ≤ c
  · by_cases h2 : c ≤ 57
    · have e : isDig c = true := decide_eq_true ⟨h1, h2⟩
      rw [e]
      clear e
      go_enter Tryz.func98, Tryz.ntmps98
      go_wp2
      go_ret
      exact ⟨rfl, rfl⟩
    · have e : isDig c = false := decide_eq_false (fun h => h2 h.2)
      rw [e]
      clear e
      go_enter Tryz.func98, Tryz.ntmps98
      go_wp2
      go_ret
      exact ⟨rfl, rfl⟩
  · have e : isDig c = false := decide_eq_false (fun h => h1 h.1)
    rw [e]
    clear e
    go_enter Tryz.func98, Tryz.ntmps98
    go_wp2
    go_ret
    exact ⟨rfl, rfl⟩
theorem rletter_any (c : Int) (w : World) : Calls Tryz.prog 97 #[.int .u8 c] w fun e w' => e = .returned (.bool (isLet c)) ∧ w = w' := by
  by_cases h0 : c = 95
  · subst h0
    go_enter Tryz.func97, Tryz.ntmps97
    go_wp2
    go_ret
    exact ⟨rfl, rfl⟩
  have t0 : (c == 95) = false := by simp [h0]
  by_cases h1 : 65 ≤ c
  · by_cases h2 : c ≤ 90
    · have e : isLet c = true := by unfold isLet; exact decide_eq_true (by omega)
      rw [e]
      clear e
      clear h0
      go_enter Tryz.func97, Tryz.ntmps97
      go_wp2
      go_ret
      exact ⟨rfl, rfl⟩
    · by_cases h3 : 97 ≤ c
      · by_cases h4 : c ≤ 122
        · have e : isLet c = true := by unfold isLet; exact decide_eq_true (by omega)
          rw [e]
          clear e
          clear h0
          go_enter Tryz.func97, Tryz.ntmps97
          go_wp2
          go_ret
          exact ⟨rfl, rfl⟩
        · have e : isLet c = false := by unfold isLet; exact decide_eq_false (by omega)
          rw [e]
          clear e
          clear h0
          go_enter Tryz.func97, Tryz.ntmps97
          go_wp2
          go_ret
          exact ⟨rfl, rfl⟩
      · have e : isLet c = false := by unfold isLet; exact decide_eq_false (by omega)
        rw [e]
        clear e
        clear h0
        go_enter Tryz.func97, Tryz.ntmps97
        go_wp2
        go_ret
        exact ⟨rfl, rfl⟩
  · have h3 : ¬ 97 ≤ c := by omega
    have e : isLet c = false := by unfold isLet; exact decide_eq_false (by omega)
    rw [e]
    clear e
    clear h0
    go_enter Tryz.func97, Tryz.ntmps97
    go_wp2
    go_ret
    exact ⟨rfl, rfl⟩
end Go.Proofs.YtdlfndjgncdgfaaGreatDoor
namespace Go.Proofs.YtdlfndjgncdgfaaGreatDoor
open Go.RowKit

/-! ### what stands at a place hangs on what follows -/
theorem stA_drop (zs : List Int) (p : Int → Bool) (i j : Nat) : stA zs p (i + j) = stA (zs.drop i) p j := by
  unfold stA
  rw [List.length_drop]
  have e : zs.getD (i + j) 0 = (zs.drop i).getD j 0 := by simp [List.getD]
  rw [e]
  by_cases h : i + j < zs.length
  · rw [decide_eq_true h, decide_eq_true (by omega)]
  · rw [decide_eq_false h, decide_eq_false (by omega)]
theorem runTo_drop (zs : List Int) (p : Int → Bool) (i j : Nat) : runTo zs p (i + j) = i + runTo (zs.drop i) p j := by
  unfold runTo
  rw [List.drop_drop]
  omega
theorem sub_drop (zs : List Int) (i a b : Nat) : sub zs (i + a) (i + b) = sub (zs.drop i) a b := by
  unfold sub
  rw [List.drop_drop, show i + b - (i + a) = b - a by omega]
theorem minusTo_drop (zs : List Int) (i : Nat) : minusTo zs i = i + minusTo (zs.drop i) 0 := by
  unfold minusTo
  rw [show stA zs (isC 45) i = stA (zs.drop i) (isC 45) 0 from stA_drop zs (isC 45) i 0]
  split <;> omega
theorem numEnd_drop (zs : List Int) (i : Nat) : numEnd zs i = i + numEnd (zs.drop i) 0 := by
  unfold numEnd
  rw [minusTo_drop, runTo_drop]
theorem numBad_drop (zs : List Int) (i : Nat) : numBad zs i = numBad (zs.drop i) 0 := by
  unfold numBad zeroAhead
  rw [minusTo_drop, runTo_drop, stA_drop, stA_drop, show stA zs (isC 45) i = stA (zs.drop i) (isC 45) 0 from stA_drop zs (isC 45) i 0]
  rw [show i + runTo (zs.drop i) isDig (minusTo (zs.drop i) 0) - (i + minusTo (zs.drop i) 0) = runTo (zs.drop i) isDig (minusTo (zs.drop i) 0) - minusTo (zs.drop i) 0 by omega]
theorem quoEnd_drop (zs : List Int) (i : Nat) : quoEnd zs i = i + quoEnd (zs.drop i) 0 := by
  unfold quoEnd
  exact runTo_drop zs isPlain i 1
theorem quoBad_drop (ok : List Int → Bool) (zs : List Int) (i : Nat) : quoBad ok zs i = quoBad ok (zs.drop i) 0 := by
  unfold quoBad
  rw [quoEnd_drop, stA_drop, sub_drop]
theorem begins_drop (zs : List Int) (i : Nat) : begins zs i = begins (zs.drop i) 0 := by
  unfold begins
  rw [show stA zs isDig i = stA (zs.drop i) isDig 0 from stA_drop zs isDig i 0, show stA zs (isC 45) i = stA (zs.drop i) (isC 45) 0 from stA_drop zs (isC 45) i 0, stA_drop]
def shiftT (i : Nat) (x : Tok × Nat) : Tok × Nat := (⟨x.1.kind, x.1.text, i + x.1.place⟩, i + x.2)
theorem tok_drop (ok : List Int → Bool) (sg : Int → Bool) (zs : List Int) (i : Nat) (hi : i ≤ zs.length) : tok ok sg zs i = (tok ok sg (zs.drop i) 0).map (shiftT i) := by
  have h1 : ∀ p, stA zs p i = stA (zs.drop i) p 0 := fun p => stA_drop zs p i 0
  have h2 : ∀ p, runTo zs p i = i + runTo (zs.drop i) p 0 := fun p => runTo_drop zs p i 0
  have h3 : ∀ a b, sub zs (i + a) (i + b) = sub (zs.drop i) a b := sub_drop zs i
  have h4 : ∀ b, sub zs i (i + b) = sub (zs.drop i) 0 b := fun b => sub_drop zs i 0 b
  have hl : (zs.drop i).length = zs.length - i := List.length_drop
  by_cases he : i = zs.length
  · rw [tok_end he, tok_end (i := 0) (by omega)]
    rfl
  have hi' : i < zs.length := by omega
  have h0 : 0 < (zs.drop i).length := by omega
  cases c1 : stA (zs.drop i) isLet 0
  rotate_left
  · rw [tok_name hi' (by rw [h1]; exact c1), tok_name h0 c1, h2, h4]
    rfl
  cases c2 : begins (zs.drop i) 0
  rotate_left
  · rw [tok_num hi' (by rw [h1]; exact c1) (by rw [begins_drop]; exact c2), tok_num h0 c1 c2, numBad_drop, numEnd_drop, h4]
    cases numBad (zs.drop i) 0 <;> rfl
  cases c3 : stA (zs.drop i) (isC 34) 0
  rotate_left
  · rw [tok_quo hi' (by rw [h1]; exact c1) (by rw [begins_drop]; exact c2) (by rw [h1]; exact c3), tok_quo h0 c1 c2 c3, quoBad_drop, quoEnd_drop, h3]
    cases quoBad ok (zs.drop i) 0
    · rw [if_neg (by decide), if_neg (by decide), Nat.add_assoc]
      rfl
    · rfl
  cases c4 : stA (zs.drop i) sg 0
  · rw [tok_none hi' (by rw [h1]; exact c1) (by rw [begins_drop]; exact c2) (by rw [h1]; exact c3) (by rw [h1]; exact c4), tok_none h0 c1 c2 c3 c4]
    rfl
  · rw [tok_sign hi' (by rw [h1]; exact c1) (by rw [begins_drop]; exact c2) (by rw [h1]; exact c3) (by rw [h1]; exact c4), tok_sign h0 c1 c2 c3 c4, h4]
    rfl
/-! ### the text of a number -/
theorem getD_take (zs : List Int) (k j : Nat) (h : j < k) : (zs.take k).getD j 0 = zs.getD j 0 := by
  simp [List.getD, h]
theorem stA_take (zs : List Int) (p : Int → Bool) (k j : Nat) (h : j < k) : stA (zs.take k) p j = stA zs p j := by
  unfold stA
  rw [getD_take zs k j h, List.length_take]
  by_cases hz : j < zs.length
  · rw [decide_eq_true hz, decide_eq_true (by omega)]
  · rw [decide_eq_false hz, decide_eq_false (by omega)]
theorem numEnd_len (zs : List Int) : minusTo zs 0 ≤ numEnd zs 0 ∧ numEnd zs 0 ≤ zs.length := by
  constructor
  · exact runTo_ge _ _ _
  · unfold numEnd
    refine runTo_le _ _ _ ?_
    rcases minusTo_cases zs with ⟨_, h, h2, _⟩ | ⟨_, h⟩ <;> omega
theorem take_minus (zs : List Int) : minusTo (zs.take (numEnd zs 0)) 0 = minusTo zs 0 ∧ (0 < numEnd zs 0 → stA (zs.take (numEnd zs 0)) (isC 45) 0 = stA zs (isC 45) 0) := by
  have h1 : 0 < numEnd zs 0 → stA (zs.take (numEnd zs 0)) (isC 45) 0 = stA zs (isC 45) 0 := stA_take zs _ _ 0
  refine ⟨?_, h1⟩
  have hl := (numEnd_len zs).1
  rcases minusTo_cases zs with ⟨a1, a2, _, _⟩ | ⟨a1, a2⟩
  · unfold minusTo at a2 ⊢
    rw [h1 (by unfold minusTo at hl; omega)]
  · rw [a2]
    unfold minusTo
    by_cases h0 : 0 < numEnd zs 0
    · rw [h1 h0, if_neg (by rw [a1]; decide)]
    · rw [stA_ge (by rw [List.length_take]; omega)]
      rfl
theorem take_numEnd (zs : List Int) : numEnd (zs.take (numEnd zs 0)) 0 = numEnd zs 0 ∧ (zs.take (numEnd zs 0)).length = numEnd zs 0 := by
  obtain ⟨h1, h2⟩ := numEnd_len zs
  have hl : (zs.take (numEnd zs 0)).length = numEnd zs 0 := by rw [List.length_take]; omega
  refine ⟨?_, hl⟩
  rw [show numEnd (zs.take (numEnd zs 0)) 0 = runTo (zs.take (numEnd zs 0)) isDig (minusTo (zs.take (numEnd zs 0)) 0) from rfl, (take_minus zs).1]
  refine runTo_unique h1 (fun j a b => ?_) (stA_ge (by rw [hl]; exact Nat.le_refl _))
  rw [stA_take zs _ _ j b]
  exact runTo_all zs isDig (minusTo zs 0) j a b
theorem numBad_text (zs : List Int) : numBad zs 0 = (!goodN (zs.take (numEnd zs 0)) || stA zs isLet (numEnd zs 0)) := by
  obtain ⟨e1, e2⟩ := take_numEnd zs
  obtain ⟨m1, m2⟩ := take_minus zs
  obtain ⟨h1, h2⟩ := numEnd_len zs
  unfold goodN
  rw [e1, e2, decide_eq_true rfl, Bool.and_true, Bool.not_not]
  unfold numBad zeroAhead
  rw [m1]
  have r1 : runTo zs isDig (minusTo zs 0) = numEnd zs 0 := rfl
  have r2 : runTo (zs.take (numEnd zs 0)) isDig (minusTo zs 0) = numEnd zs 0 := by
    rw [← m1]
    exact e1
  rw [r1, r2]
  by_cases hk : numEnd zs 0 - minusTo zs 0 = 0
  · rw [decide_eq_true hk]
    simp
  · rw [stA_take zs (isC 48) _ _ (by omega), m2 (by omega), stA_ge (p := isLet) (i := numEnd zs 0) (zs := zs.take (numEnd zs 0)) (by rw [e2]; exact Nat.le_refl _)]
    generalize decide (numEnd zs 0 - minusTo zs 0 = 0) = a
    generalize decide (20 < numEnd zs 0 - minusTo zs 0) = b
    generalize stA zs isLet (numEnd zs 0) = l
    generalize (stA zs (isC 48) (minusTo zs 0) && (stA zs (isC 45) 0 || decide (1 < numEnd zs 0 - minusTo zs 0))) = z
    cases a <;> cases b <;> cases l <;> cases z <;> rfl

/-! ### tokens and their texts -/
def full (t : Tok) : List Int := if t.kind = 3 then 34 :: (t.text ++ [34]) else t.text
theorem full_plain (k : Int) (x : List Int) (p : Nat) (h : k ≠ 3) : full ⟨k, x, p⟩ = x := if_neg h
theorem full_quo (x : List Int) (p : Nat) : full ⟨3, x, p⟩ = 34 :: (x ++ [34]) := if_pos rfl
theorem kind_iff {k : Int} {ss : List Int} (hk : k ≠ 0) (h0 : ss ≠ []) : (k = 0 ↔ ss = []) := ⟨fun h => absurd h hk, fun h => absurd h h0⟩
def Fine (ok : List Int → Bool) (sg : Int → Bool) (t : Tok) : Prop :=
  (t.kind = 0 ∧ t.text = []) ∨
  (t.kind = 1 ∧ t.text ≠ [] ∧ isLet (t.text.getD 0 0) = true ∧ ∀ c ∈ t.text, (isLet c || isDig c) = true) ∨
  (t.kind = 2 ∧ goodN t.text = true) ∨
  (t.kind = 3 ∧ (∀ c ∈ t.text, isPlain c = true) ∧ ok t.text = true) ∨
  (t.kind = 4 ∧ ∃ c, t.text = [c] ∧ sg c = true ∧ isLet c = false ∧ isDig c = false ∧ c ≠ 34)
theorem sub_zero (zs : List Int) (k : Nat) : sub zs 0 k = zs.take k := by unfold sub; simp
theorem runTo_zero (zs : List Int) (p : Int → Bool) : runTo zs p 0 = (zs.takeWhile p).length := by unfold runTo; simp
theorem take_run (zs : List Int) (p : Int → Bool) : zs.take (runTo zs p 0) = zs.takeWhile p := by
  rw [runTo_zero]
  conv => lhs; rw [← List.takeWhile_append_dropWhile (p := p) (l := zs)]
  rw [List.takeWhile_append_dropWhile, ← List.prefix_iff_eq_take.1 (List.takeWhile_prefix p)]
theorem mem_takeWhile {zs : List Int} {p : Int → Bool} {c : Int} (h : c ∈ zs.takeWhile p) : p c = true := by
  have := List.all_takeWhile (p := p) (l := zs)
  exact List.all_eq_true.1 this c h
theorem tok_fine {ok : List Int → Bool} {sg : Int → Bool} {ss : List Int} {t : Tok} {e : Nat} (h : tok ok sg ss 0 = some (t, e)) :
    Fine ok sg t ∧ t.place = 0 ∧ e = (full t).length ∧ ss.take e = full t ∧ (t.kind = 0 ↔ ss = []) := by
  by_cases h0 : ss = []
  · subst h0
    rw [tok_end (zs := []) (i := 0) rfl] at h
    cases h
    exact ⟨.inl ⟨rfl, rfl⟩, rfl, rfl, rfl, by simp⟩
  have hl : 0 < ss.length := List.length_pos_iff.2 h0
  cases c1 : stA ss isLet 0
  rotate_left
  · rw [tok_name hl c1] at h
    cases h
    have hq : stA ss (fun c => isLet c || isDig c) 0 = true := by
      rw [stA_of hl] at c1 ⊢
      simp only [c1, Bool.true_or]
    have hne : 0 < runTo ss (fun c => isLet c || isDig c) 0 := by rw [runTo_step hq]; exact runTo_ge _ _ _
    have hle := runTo_le ss (fun c => isLet c || isDig c) 0 (Nat.zero_le _)
    refine ⟨.inr (.inl ⟨rfl, ?_, ?_, ?_⟩), rfl, ?_, ?_, ?_⟩
    · intro he
      have := congrArg List.length he
      rw [sub_zero, List.length_take, List.length_nil] at this
      omega
    · show isLet ((sub ss 0 _).getD 0 0) = true
      rw [sub_zero, getD_take _ _ _ hne]
      exact stA_p c1
    · intro c hc
      rw [sub_zero, take_run] at hc
      exact mem_takeWhile hc
    · rw [full_plain _ _ _ (by decide), sub_zero, List.length_take]
      omega
    · rw [full_plain _ _ _ (by decide), sub_zero]
    · exact kind_iff (show (1 : Int) ≠ 0 by decide) h0
  cases c2 : begins ss 0
  rotate_left
  · rw [tok_num hl c1 c2] at h
    cases hb : numBad ss 0
    · rw [hb, if_neg (by decide)] at h
      cases h
      have hg : goodN (ss.take (numEnd ss 0)) = true := by
        rw [numBad_text, Bool.or_eq_false_iff, Bool.not_eq_false'] at hb
        exact hb.1
      have hle := (numEnd_len ss).2
      refine ⟨.inr (.inr (.inl ⟨rfl, by rw [sub_zero]; exact hg⟩)), rfl, ?_, ?_, ?_⟩
      · rw [full_plain _ _ _ (by decide), sub_zero, List.length_take]
        omega
      · rw [full_plain _ _ _ (by decide), sub_zero]
      · exact kind_iff (show (2 : Int) ≠ 0 by decide) h0
    · rw [hb, if_pos rfl] at h
      cases h
  cases c3 : stA ss (isC 34) 0
  rotate_left
  · rw [tok_quo hl c1 c2 c3] at h
    cases hb : quoBad ok ss 0
    · rw [hb, if_neg (by decide)] at h
      cases h
      unfold quoBad at hb
      rw [Bool.or_eq_false_iff, Bool.not_eq_false', Bool.not_eq_false'] at hb
      have hlt := stA_lt hb.1
      have h34 : ss.getD 0 0 = 34 := of_decide_eq_true (show decide (ss.getD 0 0 = 34) = true from stA_p c3)
      have he34 : ss.getD (quoEnd ss 0) 0 = 34 := of_decide_eq_true (show decide (ss.getD (quoEnd ss 0) 0 = 34) = true from stA_p hb.1)
      have hge : 1 ≤ quoEnd ss 0 := runTo_ge ss isPlain 1
      have hsub : ss = 34 :: (sub ss 1 (quoEnd ss 0) ++ 34 :: ss.drop (quoEnd ss 0 + 1)) := by
        have e1 : ss = 34 :: ss.drop 1 := by
          conv => lhs; rw [show ss = ss.drop 0 from rfl, drop_cons hl, h34]
        have e2 : ss.drop 1 = sub ss 1 (quoEnd ss 0) ++ ss.drop (quoEnd ss 0) := by
          unfold sub
          conv => lhs; rw [← List.take_append_drop (quoEnd ss 0 - 1) (ss.drop 1)]
          rw [List.drop_drop, show 1 + (quoEnd ss 0 - 1) = quoEnd ss 0 by omega]
        have e3 : ss.drop (quoEnd ss 0) = 34 :: ss.drop (quoEnd ss 0 + 1) := by rw [drop_cons hlt, he34]
        rw [← e3, ← e2]
        exact e1
      have hlen : (sub ss 1 (quoEnd ss 0)).length = quoEnd ss 0 - 1 := by
        unfold sub
        rw [List.length_take, List.length_drop]
        omega
      refine ⟨.inr (.inr (.inr (.inl ⟨rfl, ?_, hb.2⟩))), rfl, ?_, ?_, ?_⟩
      · intro c hc
        obtain ⟨j, hj, rfl⟩ := List.mem_iff_getElem.1 hc
        have hj' : j < quoEnd ss 0 - 1 := by rw [← hlen]; exact hj
        have hp := stA_p (runTo_all ss isPlain 1 (1 + j) (by omega) (by show 1 + j < quoEnd ss 0; omega))
        have e : (sub ss (0 + 1) (quoEnd ss 0))[j] = ss.getD (1 + j) 0 := by
          have h2 : j < ss.length - 1 := by omega
          have h3 : j + 1 < ss.length := by omega
          unfold sub
          rw [Nat.add_comm 1 j]
          simp [List.getD, h3]
        rw [e]
        exact hp
      · rw [full_quo]
        simp only [List.length_cons, List.length_append, List.length_nil]
        show _ = (sub ss 1 (quoEnd ss 0)).length + (0 + 1) + 1
        omega
      · rw [full_quo]
        show ss.take (quoEnd ss 0 + 1) = 34 :: (sub ss 1 (quoEnd ss 0) ++ [34])
        have e := congrArg (List.take (quoEnd ss 0 + 1)) hsub
        rw [e, List.take_succ_cons, show sub ss 1 (quoEnd ss 0) ++ 34 :: ss.drop (quoEnd ss 0 + 1) = (sub ss 1 (quoEnd ss 0) ++ [34]) ++ ss.drop (quoEnd ss 0 + 1) by simp]
        rw [List.take_append_of_le_length (by simp; omega), List.take_of_length_le (by simp; omega)]
      · exact kind_iff (show (3 : Int) ≠ 0 by decide) h0
    · rw [hb, if_pos rfl] at h
      cases h
  cases c4 : stA ss sg 0
  · rw [tok_none hl c1 c2 c3 c4] at h
    cases h
  · rw [tok_sign hl c1 c2 c3 c4] at h
    cases h
    have e : ss.take 1 = [ss.getD 0 0] := by
      conv => lhs; rw [show ss = ss.drop 0 from rfl, drop_cons hl]
      rfl
    unfold begins at c2
    rw [Bool.or_eq_false_iff] at c2
    rw [stA_of hl] at c1 c3 c4
    rw [stA_of hl] at c2
    refine ⟨.inr (.inr (.inr (.inr ⟨rfl, ss.getD 0 0, ?_, c4, c1, c2.1, ?_⟩))), rfl, ?_, ?_, ?_⟩
    · rw [sub_zero]; exact e
    · exact of_decide_eq_false c3
    · rw [full_plain _ _ _ (by decide), sub_zero, List.length_take]
      omega
    · rw [full_plain _ _ _ (by decide), sub_zero]
    · exact kind_iff (show (4 : Int) ≠ 0 by decide) h0
end Go.Proofs.YtdlfndjgncdgfaaGreatDoor
namespace Go.Proofs.YtdlfndjgncdgfaaGreatDoor
open Go.ChangeShapes Go.WideShapes Go.ChangeAt Go.RowKit Go.Shelf
theorem bts_strOf (zs : List Int) (h : ∀ z ∈ zs, 0 ≤ z ∧ z ≤ 255) : bts (strOfNums zs) = zs := by
  unfold bts
  rw [strOfNums_data, List.map_map]
  conv => rhs; rw [← List.map_id zs]
  refine List.map_congr_left fun z hz => ?_
  have := h z hz
  simp only [Function.comp, UInt8.toNat_ofNat', id]
  omega
end Go.Proofs.YtdlfndjgncdgfaaGreatDoor
