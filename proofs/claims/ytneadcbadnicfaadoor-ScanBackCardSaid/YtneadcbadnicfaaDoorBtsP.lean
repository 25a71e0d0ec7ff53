/-
  Texts as bytes, plain: put together, cut; when a number's text is right. Conditions: those that each theorem names.
-/
import Derived.Test.YtneadcbadnicfaaDoorAmong
import Derived.Test.YtneadcbadnicfaaDoorNumPlain
import Derived.Deep.Cut
import Derived.Lib.Strings
import Derived.Laws.BytesArg
import Derived.Test.YtneadcbadnicfaaDoorOneStr
namespace Go.Proofs.YtneadcbadnicfaaDoor
open Go.ChangeShapes Go.WideShapes Go.ChangeAt Go.RowKit Go.Shelf

theorem bts_get {s : ByteArray} {i : Nat} (h : i < s.size) : (bts s).getD i 0 = (s[i].toNat : Int) := by
  simp [bts, List.getD, h]
  rfl
theorem bts_end {s : ByteArray} {i : Nat} (h : s.size ≤ i) : (bts s).getD i 0 = 0 := by
  rw [List.getD, List.getElem?_eq_none (by rw [bts_length]; exact h)]
  rfl
theorem goodN_no (zs : List Int) (h : (digs zs).length < 1 ∨ 20 < (digs zs).length ∨ (1 < (digs zs).length ∧ (digs zs).getD 0 0 = 48) ∨ zs = [45, 48] ∨ ∃ j, j < (digs zs).length ∧ isDig ((digs zs).getD j 0) = false) : goodN zs = false := by
  cases hg : goodN zs
  · rfl
  · obtain ⟨a1, a2, a3, a4, a5⟩ := (goodN_iff zs).1 hg
    rcases h with h | h | h | h | ⟨j, h1, h2⟩
    · omega
    · omega
    · exact absurd h a3
    · exact absurd h a4
    · rw [a5 j h1] at h2
      cases h2
theorem goodN_yes (zs : List Int) (h1 : 1 ≤ (digs zs).length) (h2 : (digs zs).length ≤ 20) (h3 : ¬ (1 < (digs zs).length ∧ (digs zs).getD 0 0 = 48)) (h4 : zs ≠ [45, 48]) (h5 : ∀ j, j < (digs zs).length → isDig ((digs zs).getD j 0) = true) : goodN zs = true :=
  (goodN_iff zs).2 ⟨h1, h2, h3, h4, h5⟩
theorem bts_extract (s : ByteArray) : bts (s.extract 1 s.size) = (bts s).drop 1 := by
  unfold bts
  rw [Lib.extract_data, List.take_of_length_le (by simp)]
  simp
theorem extract_size (s : ByteArray) : (s.extract 1 s.size).size = s.size - 1 := by
  rw [← bts_length, bts_extract, List.length_drop, bts_length]
theorem bts_toList (s : ByteArray) (l : List UInt8) : (s.toList == l) = decide (bts s = l.map fun b => (b.toNat : Int)) := by
  rw [ByteArray.toList_eq, Bool.eq_iff_iff, beq_iff_eq, decide_eq_true_iff]
  unfold bts
  constructor
  · intro h; rw [h]
  · intro h
    have hinj : ∀ (a b : List UInt8), a.map (fun b => (b.toNat : Int)) = b.map (fun b => (b.toNat : Int)) → a = b := by
      intro a
      induction a with
      | nil => intro b hb; cases b with
        | nil => rfl
        | cons => cases hb
      | cons x r ih => intro b hb; cases b with
        | nil => cases hb
        | cons y q =>
          simp only [List.map_cons, List.cons.injEq] at hb
          have hxy : x = y := UInt8.toNat_inj.1 (by omega)
          rw [ih q hb.2, hxy]
    exact hinj _ _ h
theorem bts_append (a b : ByteArray) : bts (a ++ b) = bts a ++ bts b := by simp [bts]
theorem bts_strOf (zs : List Int) (h : ∀ z ∈ zs, 0 ≤ z ∧ z ≤ 255) : bts (strOfNums zs) = zs := by
  unfold bts
  rw [strOfNums_data, List.map_map]
  conv => rhs; rw [← List.map_id zs]
  refine List.map_congr_left fun z hz => ?_
  have := h z hz
  simp only [Function.comp, UInt8.toNat_ofNat', id]
  omega
/-- A string's bytes are these. -/
def StrIs (P : ByteArray → Prop) (w : World) (e : Ending) (w' : World) : Prop := ∃ s, e = .returned (.string s) ∧ P s ∧ Below w.heap.size w w'
end Go.Proofs.YtneadcbadnicfaaDoor
