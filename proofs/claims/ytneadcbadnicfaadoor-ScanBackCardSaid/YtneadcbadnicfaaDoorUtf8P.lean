/-
  Where bytes first begin no sign of UTF-8: a plain function of the bytes. Condition: the library's tables hold what the row lists.
-/
import Derived.Test.YtneadcbadnicfaaDoorHead
import Derived.Test.YtneadcbadnicfaaDoorDec
import Derived.Test.YtneadcbadnicfaaDoorByt
namespace Go.Proofs.YtneadcbadnicfaaDoor
open Go.ChangeShapes Go.WideShapes Go.ChangeAt Go.RowKit

/-- From place i on: the first place at which no sign begins; -1: there is none. -/
def u8From (zs : List Int) : Nat → Nat → Int
  | 0, _ => -1
  | fuel + 1, i => if i < zs.length then (if (dec (zs.drop i)).1 = 65533 ∧ (dec (zs.drop i)).2 = 1 then (i : Int) else u8From zs fuel (i + (dec (zs.drop i)).2.toNat)) else -1
def u8At (zs : List Int) (i : Nat) : Int := u8From zs (zs.length + 1) i
theorem u8From_fuel (zs : List Int) : ∀ (f g i : Nat), zs.length < f + i → zs.length < g + i → u8From zs f i = u8From zs g i
  | 0, 0, _, _, _ => rfl
  | 0, g + 1, i, hf, _ => by simp only [u8From]; rw [if_neg (by omega)]
  | f + 1, 0, i, _, hg => by simp only [u8From]; rw [if_neg (by omega)]
  | f + 1, g + 1, i, hf, hg => by
    simp only [u8From]
    by_cases h : i < zs.length
    · have hw := dec_width (zs.drop i) (by simp; omega)
      rw [if_pos h, if_pos h, u8From_fuel zs f g (i + (dec (zs.drop i)).2.toNat) (by omega) (by omega)]
    · rw [if_neg h, if_neg h]
theorem u8At_end (zs : List Int) (i : Nat) (h : zs.length ≤ i) : u8At zs i = -1 := by
  unfold u8At u8From
  rw [if_neg (by omega)]
theorem u8At_bad (zs : List Int) (i : Nat) (h : i < zs.length) (h1 : (dec (zs.drop i)).1 = 65533) (h2 : (dec (zs.drop i)).2 = 1) : u8At zs i = i := by
  unfold u8At u8From
  rw [if_pos h, if_pos ⟨h1, h2⟩]
theorem u8At_good (zs : List Int) (i : Nat) (h : i < zs.length) (h1 : ¬ ((dec (zs.drop i)).1 = 65533 ∧ (dec (zs.drop i)).2 = 1)) : u8At zs i = u8At zs (i + (dec (zs.drop i)).2.toNat) := by
  have hw := dec_width (zs.drop i) (by simp; omega)
  conv => lhs; unfold u8At u8From
  rw [if_pos h, if_neg h1]
  exact u8From_fuel zs _ _ _ (by omega) (by omega)

/-- The sign at place i. -/
theorem dec_at (zs : List Int) (i : Nat) (b off cap : Nat) (w : World) (hT : Tabs w) (hc : ∀ i, i < zs.length → w.cell? ⟨b, off + i, none⟩ = some (.int .u8 (zs.getD i 0))) (hb : ∀ i, 0 ≤ zs.getD i 0 ∧ zs.getD i 0 ≤ 255) :
    Calls Tryd.prog 49 #[.slice (some ⟨b, off + i, none⟩) (zs.length - i) cap] w fun e w' => e = .returned (.tuple #[.int .i32 (dec (zs.drop i)).1, .int .i64 (dec (zs.drop i)).2]) ∧ Below w.heap.size w w' := by
  have h := dec_any (zs.drop i) b (off + i) cap w hT (fun j hj => by
    have := hc (i + j) (by simp at hj; omega)
    rw [Nat.add_assoc, this]
    simp [List.getD]) (fun j => by
    have := hb (i + j)
    simpa [List.getD] using this)
  simp only [List.length_drop] at h
  exact h

/-- At no bytes, whatever the slice's address. -/
theorem u8At_nil : u8At [] 0 = -1 := rfl
theorem u8From_range (zs : List Int) : ∀ (f i : Nat), -1 ≤ u8From zs f i ∧ u8From zs f i ≤ zs.length
  | 0, i => by simp [u8From]
  | f + 1, i => by
    simp only [u8From]
    split
    · split
      · omega
      · exact u8From_range zs f _
    · omega
theorem u8At_range (zs : List Int) (i : Nat) : -1 ≤ u8At zs i ∧ u8At zs i ≤ zs.length := u8From_range zs _ i
end Go.Proofs.YtneadcbadnicfaaDoor
