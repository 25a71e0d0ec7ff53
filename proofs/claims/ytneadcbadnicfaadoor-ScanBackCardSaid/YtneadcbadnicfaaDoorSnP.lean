/-
  Pieces of JSON, plain: digits of base sixteen, units of UTF-16, the sign that stands at a place between quotes, the text in quotes and the number at a place. No run of the program stands in this text. Conditions: those that each theorem names.
-/
import Derived.Test.YtneadcbadnicfaaDoorLexPlain
import Derived.Test.YtneadcbadnicfaaDoorRune
import Derived.Lib.RuneBytes
namespace Go.Proofs.YtneadcbadnicfaaDoor
open Go.RowKit Go.Lib

/-- What a digit of base sixteen, of small letters, says. -/
def hexD (c : Int) : Option Nat := if 48 ≤ c ∧ c ≤ 57 then some (c - 48).toNat else if 97 ≤ c ∧ c ≤ 102 then some (c - 87).toNat else none
def smallC (c : Int) : Int := if 65 ≤ c ∧ c ≤ 90 then c + 32 else c
def hexU (c : Int) : Option Nat := hexD (smallC c)
def hexsU : List Int → Nat → Option Nat
  | [], acc => some acc
  | c :: r, acc => match hexU c with
    | none => none
    | some d => hexsU r (acc * 16 + d)
def unitAt (zs : List Int) (a : Nat) : Option Nat := if a + 4 ≤ zs.length then hexsU ((zs.drop a).take 4) 0 else none
def unitsAt (zs : List Int) (a : Nat) : Option (Nat × Nat) :=
  match unitAt zs a with
  | none => none
  | some u =>
    if u < 55296 ∨ 57343 < u then some (u, a + 4)
    else if 56320 ≤ u then none
    else if stA zs (isC 92) (a + 4) = true ∧ stA zs (isC 117) (a + 5) = true then
      match unitAt zs (a + 6) with
      | none => none
      | some v => if v < 56320 ∨ 57343 < v then none else some (65536 + (u - 55296) * 1024 + (v - 56320), a + 10)
    else none
/-- The sign that a byte behind a \ stands for. -/
def meantC (c : Int) : Option Nat :=
  if c = 34 then some 34 else if c = 92 then some 92 else if c = 47 then some 47 else if c = 98 then some 8 else if c = 102 then some 12 else if c = 110 then some 10 else if c = 114 then some 13 else if c = 116 then some 9 else none
def escAt (zs : List Int) (a : Nat) : Option (Nat × Nat) :=
  if stA zs (isC 117) a = true then unitsAt zs (a + 1)
  else if a < zs.length then (match meantC (zs.getD a 0) with | none => none | some m => some (m, a + 1)) else none
def sgnAt (zs : List Int) (a : Nat) : Option (Nat × Nat) :=
  if stA zs (isC 92) a = true then escAt zs (a + 1)
  else if (dec (zs.drop a)).1 = 65533 ∧ (dec (zs.drop a)).2 < 2 then none
  else if (dec (zs.drop a)).1 < 32 then none
  else some ((dec (zs.drop a)).1.toNat, a + (dec (zs.drop a)).2.toNat)
def txtF (zs : List Int) : Nat → Nat → List Int → Option (List Int × Nat)
  | 0, _, _ => none
  | f + 1, a, T => if stA zs (isC 34) a = true then some (T, a + 1) else match sgnAt zs a with
    | none => none
    | some (r, b) => txtF zs f b (T ++ enc r)
/-- The text in quotes at a place, behind blanks: what it means, and the place behind it. -/
def txtAt (zs : List Int) (a : Nat) : Option (List Int × Nat) :=
  if stA zs (isC 34) (runTo zs isBlank a) = true then txtF zs (zs.length + 1) (runTo zs isBlank a + 1) [] else none

theorem hexD_lt {c : Int} {d : Nat} (h : hexD c = some d) : d < 16 := by
  unfold hexD at h
  split at h
  · cases h; omega
  split at h
  · cases h; omega
  · cases h
theorem hexsU_lt : ∀ (l : List Int) (acc d : Nat), hexsU l acc = some d → d < (acc + 1) * 16 ^ l.length
  | [], acc, d, h => by
    simp only [hexsU, Option.some.injEq] at h
    subst h
    simp
  | c :: r, acc, d, h => by
    simp only [hexsU] at h
    split at h
    · cases h
    · rename_i x hx
      have h1 := hexD_lt hx
      have h2 := hexsU_lt r _ _ h
      rw [List.length_cons, Nat.pow_succ]
      refine Nat.lt_of_lt_of_le h2 ?_
      rw [Nat.mul_comm (16 ^ r.length), ← Nat.mul_assoc]
      exact Nat.mul_le_mul_right _ (by omega)
theorem unitAt_lt {zs : List Int} {a u : Nat} (h : unitAt zs a = some u) : u < 65536 ∧ a + 4 ≤ zs.length := by
  unfold unitAt at h
  split at h
  · rename_i hl
    have := hexsU_lt _ _ _ h
    rw [show ((zs.drop a).take 4).length = 4 by simp; omega] at this
    exact ⟨by omega, hl⟩
  · cases h
theorem unitsAt_is {zs : List Int} {a r b : Nat} (h : unitsAt zs a = some (r, b)) : isRune r ∧ a < b ∧ b ≤ zs.length := by
  unfold unitsAt at h
  split at h
  · cases h
  · rename_i u hu
    have h1 := unitAt_lt hu
    split at h
    · cases h
      exact ⟨by unfold isRune; omega, by omega, by omega⟩
    split at h
    · cases h
    split at h
    · split at h
      · cases h
      · rename_i v hv
        have h2 := unitAt_lt hv
        split at h
        · cases h
        · rw [Option.some.injEq, Prod.mk.injEq] at h
          obtain ⟨e1, e2⟩ := h
          exact ⟨by unfold isRune; omega, by omega, by omega⟩
    · cases h
theorem meantC_lt {c : Int} {m : Nat} (h : meantC c = some m) : m < 128 := by
  unfold meantC at h
  repeat (split at h; · cases h; omega)
  cases h
theorem escAt_is {zs : List Int} {a r b : Nat} (h : escAt zs a = some (r, b)) : isRune r ∧ a < b ∧ b ≤ zs.length := by
  unfold escAt at h
  split at h
  · have := unitsAt_is h
    exact ⟨this.1, by omega, this.2.2⟩
  split at h
  · split at h
    · cases h
    · rename_i m hm
      have := meantC_lt hm
      cases h
      exact ⟨by unfold isRune; omega, by omega, by omega⟩
  · cases h
/-- What a sign at the head of bytes says is a sign. -/
theorem dec_rune (zs : List Int) (hb : ∀ i, 0 ≤ zs.getD i 0 ∧ zs.getD i 0 ≤ 255) : ∃ r : Nat, (dec zs).1 = r ∧ isRune r := by
  by_cases hl : 0 < zs.length
  · obtain ⟨y0, hy0⟩ := nat_of _ (hb 0).1
    obtain ⟨y1, hy1⟩ := nat_of _ (hb 1).1
    obtain ⟨y2, hy2⟩ := nat_of _ (hb 2).1
    obtain ⟨y3, hy3⟩ := nat_of _ (hb 3).1
    rw [dec_eq zs hb hl zs.length y0 y1 y2 y3 rfl hy0 hy1 hy2 hy3]
    refine ⟨_, rfl, ?_⟩
    unfold Lib.decodeN isRune
    repeat' split
    all_goals (simp only; omega)
  · rw [dec_nil_len zs (by omega)]
    exact ⟨65533, rfl, by unfold isRune; omega⟩
theorem sgnAt_is {zs : List Int} (hb : ∀ i, 0 ≤ zs.getD i 0 ∧ zs.getD i 0 ≤ 255) {a r b : Nat} (h : sgnAt zs a = some (r, b)) : isRune r ∧ a < b ∧ b ≤ zs.length := by
  unfold sgnAt at h
  split at h
  · have := escAt_is h
    exact ⟨this.1, by omega, this.2.2⟩
  split at h
  · cases h
  rename_i h1 h2
  split at h
  · cases h
  · have hb' : ∀ i, 0 ≤ (zs.drop a).getD i 0 ∧ (zs.drop a).getD i 0 ≤ 255 := fun i => by simpa [List.getD] using hb (a + i)
    obtain ⟨r', hr, hr'⟩ := dec_rune (zs.drop a) hb'
    by_cases hl : 0 < (zs.drop a).length
    · have hw := dec_width (zs.drop a) hl
      simp at hl hw
      cases h
      rw [hr, Int.toNat_natCast]
      exact ⟨hr', by omega, by omega⟩
    · exact absurd (by rw [dec_nil_len _ (by omega)]; exact ⟨rfl, by decide⟩) h2
theorem txtF_fuel {zs : List Int} (hb : ∀ i, 0 ≤ zs.getD i 0 ∧ zs.getD i 0 ≤ 255) : ∀ (f g a : Nat) (T : List Int), zs.length < f + a → zs.length < g + a → txtF zs f a T = txtF zs g a T
  | 0, 0, _, _, _, _ => rfl
  | 0, g + 1, a, T, hf, _ => by
    simp only [txtF]
    rw [if_neg (fun h => by have := stA_lt h; omega)]
    split
    · rfl
    · rename_i r b h
      have := (sgnAt_is hb h).2
      omega
  | f + 1, 0, a, T, _, hg => by
    simp only [txtF]
    rw [if_neg (fun h => by have := stA_lt h; omega)]
    split
    · rfl
    · rename_i r b h
      have := (sgnAt_is hb h).2
      omega
  | f + 1, g + 1, a, T, hf, hg => by
    simp only [txtF]
    split
    · rfl
    split
    · rfl
    · rename_i r b h
      have := (sgnAt_is hb h).2
      exact txtF_fuel hb f g b _ (by omega) (by omega)
/-- From a place between the quotes on, behind what was read: what the text is. -/
def txtGo (zs : List Int) (a : Nat) (T : List Int) : Option (List Int × Nat) := txtF zs (zs.length + 1) a T
theorem txtGo_end {zs : List Int} {a : Nat} {T : List Int} (h : stA zs (isC 34) a = true) : txtGo zs a T = some (T, a + 1) := by
  unfold txtGo txtF
  rw [if_pos h]
theorem txtGo_no {zs : List Int} {a : Nat} {T : List Int} (h : stA zs (isC 34) a = false) (h2 : sgnAt zs a = none) : txtGo zs a T = none := by
  unfold txtGo txtF
  rw [if_neg (by rw [h]; decide), h2]
theorem txtGo_step {zs : List Int} (hb : ∀ i, 0 ≤ zs.getD i 0 ∧ zs.getD i 0 ≤ 255) {a r b : Nat} {T : List Int} (h : stA zs (isC 34) a = false) (h2 : sgnAt zs a = some (r, b)) : txtGo zs a T = txtGo zs b (T ++ enc r) := by
  conv => lhs; unfold txtGo txtF
  rw [if_neg (by rw [h]; decide), h2]
  have := (sgnAt_is hb h2).2
  exact txtF_fuel hb _ _ _ _ (by omega) (by omega)
theorem txtAt_yes {zs : List Int} {a : Nat} (h : stA zs (isC 34) (runTo zs isBlank a) = true) : txtAt zs a = txtGo zs (runTo zs isBlank a + 1) [] := by
  unfold txtAt
  rw [if_pos h]
  rfl
theorem txtAt_no {zs : List Int} {a : Nat} (h : stA zs (isC 34) (runTo zs isBlank a) = false) : txtAt zs a = none := by
  unfold txtAt
  rw [if_neg (by rw [h]; decide)]
/-- The cells of a sign's bytes. -/
theorem rune_cells (r : Nat) (h : isRune r) : Lib.runeCells r = (enc r).map (Value.int .u8) := by
  unfold Lib.runeCells
  congr 1
  unfold isRune at h
  unfold enc
  split
  · exact encodeRuneZ_one (by omega) (by omega)
  split
  · rw [encodeRuneZ_two (by omega) (by omega)]; simp
  split
  · rw [encodeRuneZ_three (by omega)]; simp
  · rw [encodeRuneZ_four (by omega) (by omega)]; simp
end Go.Proofs.YtneadcbadnicfaaDoor
