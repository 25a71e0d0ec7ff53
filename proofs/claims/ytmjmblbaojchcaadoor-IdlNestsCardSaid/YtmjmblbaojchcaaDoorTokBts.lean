/-
  Texts as bytes: two of the same bytes are one; a part's bytes; each token of a text is fine, no longer than the text, and of bytes. Conditions: those that each theorem names.
-/
import Derived.Test.YtmjmblbaojchcaaDoorTokTwin
import Derived.Test.YtmjmblbaojchcaaDoorDecimal
import Derived.Test.YtmjmblbaojchcaaDoorQuoted
import Derived.Test.YtmjmblbaojchcaaDoorRefGood
namespace Go.Proofs.YtmjmblbaojchcaaDoor
open Go.ChangeShapes Go.WideShapes Go.ChangeAt Go.RowKit Go.Shelf

theorem full_length (t : Tok) : t.text.length + (if t.kind = 3 then 2 else 0) = (full t).length := by
  unfold full
  split <;> simp
theorem text_bd {ok : List Int → Bool} {sg : Int → Bool} {s : ByteArray} {i e : Nat} {t : Tok} (_ : Fine ok sg t) (h : sub (bts s) i e = full t) : ∀ z ∈ t.text, 0 ≤ z ∧ z ≤ 255 := by
  intro z hz
  have h1 : z ∈ full t := by
    unfold full
    split
    · exact List.mem_cons_of_mem _ (List.mem_append_left _ hz)
    · exact hz
  rw [← h] at h1
  have h2 : z ∈ bts s := List.mem_of_mem_drop (List.mem_of_mem_take h1)
  obtain ⟨j, hj, rfl⟩ := List.mem_iff_getElem.1 h2
  have := bts_bd s j
  rw [List.getD, List.getElem?_eq_getElem hj] at this
  exact this
theorem bts_inj {a b : ByteArray} (h : bts a = bts b) : a = b := by
  have h1 := bts_toList a b.data.toList
  have h2 : a.toList = b.data.toList := by
    have : (a.toList == b.data.toList) = true := by rw [h1]; exact decide_eq_true h
    exact beq_iff_eq.1 this
  rw [ByteArray.toList_eq] at h2
  exact bytes_inj h2
theorem bts_part (s : ByteArray) (i j : Nat) : bts (s.extract i j) = sub (bts s) i j := by
  unfold bts sub
  rw [Lib.extract_data]
  simp
theorem chain_all {s : ByteArray} {sg : Int → Bool} : ∀ (l : List Tok) (i : Nat), i ≤ (bts s).length → Left okU sg (bts s) i l → ∀ t ∈ l, Fine okU sg t ∧ (full t).length ≤ s.size ∧ ∀ z ∈ t.text, 0 ≤ z ∧ z ≤ 255
  | [], _, _, _, t, h => by cases h
  | a :: r, i, hi, hl, t, h => by
    obtain ⟨f1, _, f3, f4, _, f6⟩ := left_step hi hl
    rcases List.mem_cons.1 h with rfl | h
    · refine ⟨f1, ?_, text_bd f1 f4⟩
      rw [bts_length] at f3
      omega
    · exact chain_all r _ f3 f6 t h
end Go.Proofs.YtmjmblbaojchcaaDoor
