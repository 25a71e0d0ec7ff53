/-
  A struct in words, plain: where its numbers and pointers stand. No run of the program stands in this text. Conditions: those that each theorem names.
-/
import Derived.Test.YtdlfndjgncdgfaaDoorLayNum
import Derived.Test.YtdlfndjgncdgfaaDoorLayInts
namespace Go.Proofs.YtdlfndjgncdgfaaDoor
open Go.ChangeShapes Go.WideShapes Go.ChangeAt Go.RowKit Go.Shelf

def noSF : SFld := ⟨⟨#[]⟩, 0, 0, 0, 0⟩
/-- How many bits a field has among a struct's numbers; 0: it is no number. -/
def fwI (f : SFld) : Int := if isNumP f.kind f.lists = true then bitsK f.kind else 0
def widthsL : List Int := [64, 32, 16, 8, 1]
/-- The first k fields, those of a width put behind one another. -/
def wUpTo (z : Int) (fs : List SFld) (s : List Int × Int) : Nat → List Int × Int
  | 0 => s
  | k + 1 => if fwI (fs.getD k noSF) = z then ((wUpTo z fs s k).1.set k (wUpTo z fs s k).2, (wUpTo z fs s k).2 + z) else wUpTo z fs s k
/-- So many widths, the widest first. -/
def wAll (fs : List SFld) : Nat → List Int × Int
  | 0 => (List.replicate fs.length 0, 0)
  | z + 1 => wUpTo (widthsL.getD z 0) fs (wAll fs z) fs.length
/-- The first k fields, those that are no numbers numbered. -/
def pUpTo (fs : List SFld) (s : List Int × Int) : Nat → List Int × Int
  | 0 => s
  | k + 1 => if isNumP (fs.getD k noSF).kind (fs.getD k noSF).lists = true then pUpTo fs s k else ((pUpTo fs s k).1.set k (pUpTo fs s k).2, (pUpTo fs s k).2 + 1)
def atP (fs : List SFld) : List Int := (pUpTo fs ((wAll fs 5).1, 0) fs.length).1
def ptrsP (fs : List SFld) : Int := (pUpTo fs ((wAll fs 5).1, 0) fs.length).2
def wordsP (fs : List SFld) : Int := ((wAll fs 5).2 + 63) / 64
theorem widths_bd (z : Nat) (h : z < 5) : 1 ≤ widthsL.getD z 0 ∧ widthsL.getD z 0 ≤ 64 := by
  have : z = 0 ∨ z = 1 ∨ z = 2 ∨ z = 3 ∨ z = 4 := by omega
  rcases this with rfl | rfl | rfl | rfl | rfl <;> decide
theorem wUpTo_len (z : Int) (fs : List SFld) (s : List Int × Int) : ∀ k, (wUpTo z fs s k).1.length = s.1.length
  | 0 => rfl
  | k + 1 => by
    unfold wUpTo
    split
    · rw [List.length_set]; exact wUpTo_len z fs s k
    · exact wUpTo_len z fs s k
theorem wUpTo_bd (z : Int) (h0 : 0 ≤ z) (h64 : z ≤ 64) (fs : List SFld) (s : List Int × Int) : ∀ k : Nat, s.2 ≤ (wUpTo z fs s k).2 ∧ (wUpTo z fs s k).2 ≤ s.2 + 64 * k
  | 0 => ⟨Int.le_refl _, by simp [wUpTo]⟩
  | k + 1 => by
    have ih := wUpTo_bd z h0 h64 fs s k
    unfold wUpTo
    split
    · simp only
      omega
    · omega
theorem wAll_len (fs : List SFld) : ∀ z, (wAll fs z).1.length = fs.length
  | 0 => by simp [wAll]
  | z + 1 => by unfold wAll; rw [wUpTo_len]; exact wAll_len fs z
theorem wAll_bd (fs : List SFld) (h : fs.length ≤ 1000) : ∀ z, z ≤ 5 → 0 ≤ (wAll fs z).2 ∧ (wAll fs z).2 ≤ 64000 * z
  | 0, _ => ⟨Int.le_refl _, by simp [wAll]⟩
  | z + 1, hz => by
    have ih := wAll_bd fs h z (by omega)
    have hw := widths_bd z (by omega)
    have hu := wUpTo_bd (widthsL.getD z 0) (by omega) hw.2 fs (wAll fs z) fs.length
    unfold wAll
    omega
theorem pUpTo_len (fs : List SFld) (s : List Int × Int) : ∀ k, (pUpTo fs s k).1.length = s.1.length
  | 0 => rfl
  | k + 1 => by
    unfold pUpTo
    split
    · exact pUpTo_len fs s k
    · rw [List.length_set]; exact pUpTo_len fs s k
theorem pUpTo_bd (fs : List SFld) (s : List Int × Int) : ∀ k : Nat, s.2 ≤ (pUpTo fs s k).2 ∧ (pUpTo fs s k).2 ≤ s.2 + k
  | 0 => ⟨Int.le_refl _, by simp [pUpTo]⟩
  | k + 1 => by
    have ih := pUpTo_bd fs s k
    unfold pUpTo
    split
    · omega
    · simp only
      omega
theorem atP_len (fs : List SFld) : (atP fs).length = fs.length := by
  unfold atP
  rw [pUpTo_len, wAll_len]
theorem wUpTo_yes {z : Int} {fs : List SFld} {s : List Int × Int} {k : Nat} {at' : List Int} {b : Int} {f : SFld} (h : wUpTo z fs s k = (at', b)) (hk : k < fs.length) (hf : fs[k] = f) (he : fwI f = z) : wUpTo z fs s (k + 1) = (at'.set k b, b + z) := by
  have hg : fs.getD k noSF = f := by rw [List.getD, List.getElem?_eq_getElem hk, hf]; rfl
  unfold wUpTo
  rw [hg, if_pos he, h]
theorem wUpTo_no {z : Int} {fs : List SFld} {s : List Int × Int} {k : Nat} {f : SFld} (hk : k < fs.length) (hf : fs[k] = f) (he : ¬ fwI f = z) : wUpTo z fs s (k + 1) = wUpTo z fs s k := by
  have hg : fs.getD k noSF = f := by rw [List.getD, List.getElem?_eq_getElem hk, hf]; rfl
  conv => lhs; unfold wUpTo
  rw [hg, if_neg he]
theorem pUpTo_yes {fs : List SFld} {s : List Int × Int} {k : Nat} {f : SFld} (hk : k < fs.length) (hf : fs[k] = f) (he : isNumP f.kind f.lists = true) : pUpTo fs s (k + 1) = pUpTo fs s k := by
  have hg : fs.getD k noSF = f := by rw [List.getD, List.getElem?_eq_getElem hk, hf]; rfl
  conv => lhs; unfold pUpTo
  rw [hg, if_pos he]
theorem pUpTo_no {fs : List SFld} {s : List Int × Int} {k : Nat} {at' : List Int} {b : Int} {f : SFld} (h : pUpTo fs s k = (at', b)) (hk : k < fs.length) (hf : fs[k] = f) (he : isNumP f.kind f.lists = false) : pUpTo fs s (k + 1) = (at'.set k b, b + 1) := by
  have hg : fs.getD k noSF = f := by rw [List.getD, List.getElem?_eq_getElem hk, hf]; rfl
  unfold pUpTo
  rw [hg, if_neg (by rw [he]; decide), h]
theorem i64_set (l : List Int) (k : Nat) (z : Int) : (i64Cells l).toArray.setIfInBounds k (.int .i64 z) = (i64Cells (l.set k z)).toArray := by
  rw [i64Cells_map, i64Cells_map, List.map_set]
  simp
theorem i64_zeros (n : Nat) : (i64Cells (List.replicate n 0)) = List.replicate n (.int .i64 0) := by rw [i64Cells_map]; simp
end Go.Proofs.YtdlfndjgncdgfaaDoor
