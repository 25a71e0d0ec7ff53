/-
  Plain facts on decimal numbers as texts: when a text is a number, which one it says, and whether that is one of so many bytes. No run of the program stands in this text. Conditions: those that each theorem names.
-/
import Derived.Test.YtneadcbadnicfaaDoorLexPlain
import Derived.Lib.ParseIntB
import Derived.Laws.BitsLemmas
import Derived.IntWalk
namespace Go.Proofs.YtneadcbadnicfaaDoor
open Go.RowKit

/-- What digits say, behind those that said acc. -/
def dstep (a : Nat) (c : Int) : Nat := a * 10 + (c.toNat - 48)
def decF (acc : Nat) (ds : List Int) : Nat := ds.foldl dstep acc
/-- The greatest number of 64 bits. -/
def maxU : Nat := 18446744073709551615
theorem decF_nil (acc : Nat) : decF acc [] = acc := rfl
theorem decF_cons (acc : Nat) (c : Int) (r : List Int) : decF acc (c :: r) = decF (dstep acc c) r := List.foldl_cons ..
theorem decF_ge (ds : List Int) : ∀ acc : Nat, acc ≤ decF acc ds := by
  induction ds with
  | nil => intro acc; rw [decF_nil]; exact Nat.le_refl acc
  | cons c r ih =>
    intro acc
    rw [decF_cons]
    have := ih (dstep acc c)
    have h2 : acc ≤ dstep acc c := by unfold dstep; omega
    omega
theorem decF_append (ds es : List Int) : ∀ acc : Nat, decF acc (ds ++ es) = decF (decF acc ds) es := by
  induction ds with
  | nil => intro acc; rfl
  | cons c r ih =>
    intro acc
    rw [List.cons_append, decF_cons, decF_cons]
    exact ih _
/-- The library's own parse at digits. -/
theorem parseUintM_dec (M : Nat) (hM : M = maxU) (l : List UInt8) : ∀ acc : Nat, (∀ b ∈ l, 48 ≤ b.toNat ∧ b.toNat ≤ 57) → acc ≤ maxU →
    Lib.parseUintM M acc l = if decF acc (l.map fun b => (b.toNat : Int)) ≤ maxU then .ok (decF acc (l.map fun b => (b.toNat : Int))) else .range := by
  induction l with
  | nil =>
    intro acc _ ha
    rw [List.map_nil, decF_nil, if_pos ha]
    rfl
  | cons b r ih =>
    intro acc hd ha
    have hb := hd b List.mem_cons_self
    rw [List.map_cons, decF_cons, show dstep acc (b.toNat : Int) = acc * 10 + (b.toNat - 48) from by unfold dstep; rw [Int.toNat_natCast]]
    have hge := decF_ge (r.map fun b => (b.toNat : Int)) (acc * 10 + (b.toNat - 48))
    simp only [Lib.parseUintM]
    rw [if_pos hb]
    by_cases h1 : 1844674407370955162 ≤ acc
    · rw [if_pos h1, if_neg (by unfold maxU; omega)]
    · rw [if_neg h1]
      by_cases h2 : M < acc * 10 + (b.toNat - 48)
      · rw [if_pos h2, if_neg (by omega)]
      · rw [if_neg h2]
        exact ih _ (fun x hx => hd x (List.mem_cons_of_mem _ hx)) (by omega)
theorem maxU_eq : 2 ^ 64 - 1 = maxU := by decide
theorem parseUintB_dec (l : List UInt8) (hne : l ≠ []) (hd : ∀ b ∈ l, 48 ≤ b.toNat ∧ b.toNat ≤ 57) :
    Lib.parseUintB 64 l = if decF 0 (l.map fun b => (b.toNat : Int)) ≤ maxU then .ok (decF 0 (l.map fun b => (b.toNat : Int))) else .range := by
  unfold Lib.parseUintB
  rw [if_neg hne]
  exact parseUintM_dec _ maxU_eq l 0 hd (Nat.zero_le _)

/-- Is a text a number's? -/
def goodN (zs : List Int) : Bool := !numBad zs 0 && decide (numEnd zs 0 = zs.length)
/-- Its digits. -/
def digs (zs : List Int) : List Int := if stA zs (isC 45) 0 = true then zs.drop 1 else zs
theorem digs_drop (zs : List Int) : digs zs = zs.drop (minusTo zs 0) := by
  unfold digs minusTo
  split <;> simp
theorem good_digs {zs : List Int} (h : goodN zs = true) : digs zs ≠ [] ∧ ∀ c ∈ digs zs, 48 ≤ c ∧ c ≤ 57 := by
  unfold goodN at h
  rw [Bool.and_eq_true, Bool.not_eq_true', decide_eq_true_iff] at h
  obtain ⟨h1, h2⟩ := h
  have h0 : decide (runTo zs isDig (minusTo zs 0) - minusTo zs 0 = 0) = false := by
    unfold numBad at h1
    rw [Bool.or_eq_false_iff, Bool.or_eq_false_iff, Bool.or_eq_false_iff] at h1
    exact h1.1.1.1
  have h0' := of_decide_eq_false h0
  unfold numEnd at h2
  rw [digs_drop]
  constructor
  · intro he
    have := congrArg List.length he
    rw [List.length_drop, List.length_nil] at this
    omega
  · intro c hc
    obtain ⟨j, hj, rfl⟩ := List.mem_iff_getElem.1 hc
    rw [List.length_drop] at hj
    have := runTo_all zs isDig (minusTo zs 0) (minusTo zs 0 + j) (by omega) (by omega)
    have hp := of_decide_eq_true (show decide (48 ≤ zs.getD (minusTo zs 0 + j) 0 ∧ zs.getD (minusTo zs 0 + j) 0 ≤ 57) = true from stA_p this)
    have he : zs.getD (minusTo zs 0 + j) 0 = (zs.drop (minusTo zs 0))[j]'(by rw [List.length_drop]; omega) := by
      rw [List.getElem_drop]
      simp [List.getD, show minusTo zs 0 + j < zs.length by omega]
    rw [he] at hp
    exact hp
theorem minusTo_cases (zs : List Int) : (stA zs (isC 45) 0 = true ∧ minusTo zs 0 = 1 ∧ 1 ≤ zs.length ∧ zs.getD 0 0 = 45) ∨ (stA zs (isC 45) 0 = false ∧ minusTo zs 0 = 0) := by
  unfold minusTo
  cases h : stA zs (isC 45) 0
  · exact .inr ⟨rfl, by simp⟩
  · refine .inl ⟨rfl, by simp, stA_lt h, ?_⟩
    exact of_decide_eq_true (show decide (zs.getD 0 0 = 45) = true from stA_p h)
theorem digs_length (zs : List Int) : (digs zs).length = zs.length - minusTo zs 0 := by rw [digs_drop, List.length_drop]
theorem digs_get (zs : List Int) (j : Nat) : (digs zs).getD j 0 = zs.getD (minusTo zs 0 + j) 0 := by
  rw [digs_drop]
  simp [List.getD]
/-- A text is a number's just if its digits are so many, without a 0 ahead. -/
theorem goodN_iff (zs : List Int) : goodN zs = true ↔ (1 ≤ (digs zs).length ∧ (digs zs).length ≤ 20 ∧ ¬ (1 < (digs zs).length ∧ (digs zs).getD 0 0 = 48) ∧ zs ≠ [45, 48] ∧ ∀ j, j < (digs zs).length → isDig ((digs zs).getD j 0) = true) := by
  rw [digs_length]
  have hm := minusTo_cases zs
  unfold goodN numEnd
  rw [Bool.and_eq_true, Bool.not_eq_true', decide_eq_true_iff]
  constructor
  · rintro ⟨h1, h2⟩
    unfold numBad at h1
    rw [Bool.or_eq_false_iff, Bool.or_eq_false_iff, Bool.or_eq_false_iff, h2, decide_eq_false_iff_not, decide_eq_false_iff_not] at h1
    obtain ⟨⟨⟨a1, a2⟩, _⟩, a4⟩ := h1
    have hz : ∀ (_ : 1 ≤ zs.length - minusTo zs 0) (_ : zs.getD (minusTo zs 0) 0 = 48), stA zs (isC 48) (minusTo zs 0) = true := fun hl he => by
      rw [stA_of (by omega)]
      exact decide_eq_true he
    unfold zeroAhead at a4
    rw [h2] at a4
    refine ⟨by omega, by omega, ?_, ?_, ?_⟩
    · rintro ⟨b1, b2⟩
      rw [digs_get, Nat.add_zero] at b2
      rw [hz (by omega) b2, decide_eq_true b1, Bool.or_true] at a4
      cases a4
    · rintro rfl
      exact absurd a4 (by decide)
    · intro j hj
      rw [digs_get]
      exact stA_p (runTo_all zs isDig (minusTo zs 0) (minusTo zs 0 + j) (by omega) (by omega))
  · rintro ⟨b1, b2, b3, b4, b5⟩
    have hE : runTo zs isDig (minusTo zs 0) = zs.length := by
      refine runTo_unique (by omega) (fun j h1 h2 => ?_) (stA_ge (Nat.le_refl _))
      rw [stA_of h2]
      have := b5 (j - minusTo zs 0) (by omega)
      rw [digs_get, show minusTo zs 0 + (j - minusTo zs 0) = j by omega] at this
      exact this
    refine ⟨?_, hE⟩
    unfold numBad zeroAhead
    rw [hE, decide_eq_false (by omega), decide_eq_false (by omega), stA_ge (Nat.le_refl _)]
    simp only [Bool.false_or]
    cases h48 : stA zs (isC 48) (minusTo zs 0)
    · rfl
    · have h48' : zs.getD (minusTo zs 0) 0 = 48 := of_decide_eq_true (show decide (zs.getD (minusTo zs 0) 0 = 48) = true from stA_p h48)
      have c1 : ¬ 1 < zs.length - minusTo zs 0 := fun h => b3 ⟨h, by rw [digs_get, Nat.add_zero]; exact h48'⟩
      rw [decide_eq_false c1, Bool.or_false, Bool.true_and]
      rcases hm with ⟨m1, m2, m3, m4⟩ | ⟨m1, m2⟩
      · exfalso
        apply b4
        rw [m2] at h48' b1 c1
        match zs, b1, c1, m4, h48' with
        | [a, b], _, _, m4, h48' =>
          simp at m4 h48'
          rw [m4, h48']
        | a :: b :: c :: r, _, c1, _, _ => simp at c1
        | [_], b1, _, _, _ => simp at b1
        | [], b1, _, _, _ => simp at b1
      · exact m1
def sizedB (size : Int) : Bool := decide (size = 1 ∨ size = 2 ∨ size = 4 ∨ size = 8)
/-- How many numbers there are of so many bytes. -/
def span (size : Int) : Int := if size = 1 then 256 else if size = 2 then 65536 else if size = 4 then 4294967296 else 18446744073709551616
/-- Is a number, or its opposite, one of so many bytes? -/
def fitsB (v : Int) (below : Bool) (size : Int) (sign : Bool) : Bool :=
  if sign = true then decide (v < span size / 2) || (below && decide (v = span size / 2)) else !below && decide (v < span size)
/-- The number that a text says, in 64 bits. -/
def numV (zs : List Int) (size : Int) (sign : Bool) : Option Nat :=
  if goodN zs = true ∧ sizedB size = true ∧ decF 0 (digs zs) ≤ maxU ∧ fitsB (decF 0 (digs zs)) (stA zs (isC 45) 0) size sign = true then
    some (if stA zs (isC 45) 0 = true then (18446744073709551616 - decF 0 (digs zs)) % 18446744073709551616 else decF 0 (digs zs))
  else none
theorem xor_max (n : Nat) (h : (n : Int) ≤ 18446744073709551615) : IntKind.u64.wrap (bits BinOp.xor .u64 IntKind.u64.max n + 1) = (((18446744073709551616 - n) % 18446744073709551616 : Nat) : Int) := by
  have e : bits BinOp.xor .u64 IntKind.u64.max n = 18446744073709551615 - n := by
    show IntKind.u64.wrap (((BitVec.ofInt 64 IntKind.u64.max) ^^^ BitVec.ofInt 64 (n : Int)).toNat : Int) = _
    rw [show BitVec.ofInt 64 IntKind.u64.max = BitVec.allOnes 64 from by decide, BitVec.allOnes_xor, BitVec.toNat_not, BitVec.ofInt_natCast, BitVec.toNat_ofNat, Nat.mod_eq_of_lt (by omega), IntKind.wrap_u64]
    omega
  rw [e, IntKind.wrap_u64]
  omega
end Go.Proofs.YtneadcbadnicfaaDoor
