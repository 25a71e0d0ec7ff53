/-
  Slices of tokens of the call's own: how they lie in memory, cell by cell; what keeps them; small facts on numbers. Conditions: those that each theorem names.
-/
import Derived.Test.YtgbcchiheddfpaaGreatDoorPkL1
import Derived.Test.YtgbcchiheddfpaaGreatDoorPkL2
import Derived.Lib.ConvBytes
import Derived.Lib.AtoiErrMem
import Derived.Laws.EntriesVeiled
import Derived.Shelf.Abstract
import Derived.Test.YtgbcchiheddfpaaGreatDoorRows
import Derived.WalkKit
import Derived.ProofKit
import Derived.OpenShut
import Derived.ShutString
import Derived.ChangeOld
import Derived.Below
import Derived.WalkLawsBesides
import Derived.WalkSpells
import Derived.Lib.Hide
import Derived.Outline
import Derived.Handy
namespace Go.Proofs.YtgbcchiheddfpaaGreatDoor
open Go.ChangeShapes Go.WideShapes Go.ChangeAt Go.RowKit Go.Shelf

def tokCells (t : Tok) : List Value := [.int .i64 t.kind, .string (strOfNums t.text), .int .i64 t.place]
def toksCells (l : List Tok) : List Value := l.flatMap tokCells
def OwnT (w : World) (base : Nat) (v : Value) (l : List Tok) : Prop := w.ownsRow base 282 3 v l.length (toksCells l)
theorem toksCells_length (l : List Tok) : (toksCells l).length = l.length * 3 := by
  induction l with
  | nil => rfl
  | cons a r ih =>
    have e : toksCells (a :: r) = tokCells a ++ toksCells r := rfl
    rw [e, List.length_append, ih, List.length_cons]
    simp [tokCells]
    omega
theorem toksCells_snoc (l : List Tok) (t : Tok) : toksCells (l ++ [t]) = toksCells l ++ tokCells t := by
  simp [toksCells]
theorem ownT_nil (w : World) (base : Nat) : OwnT w base (.slice none 0 0) [] := World.ownsRow_nil w base _ _
theorem tok_info : (Tryz.prog.info? 282).map (fun i => (i.zero, i.size, i.bytes)) = some (some (.agg #[.int .i64 0, .string ⟨#[]⟩, .int .i64 0]), 3, 32) := by kernel_rfl
def lenOf : Value → Nat
  | .slice _ n _ => n
  | _ => 0
theorem OwnT.form {w : World} {base : Nat} {v : Value} {l : List Tok} (h : OwnT w base v l) : ∃ a c, v = .slice a l.length c := by
  rcases h.2 with ⟨rfl, h0⟩ | ⟨g, cap, _, rfl, _⟩
  · rw [h0]
    exact ⟨_, _, rfl⟩
  · exact ⟨_, _, rfl⟩
theorem OwnT.below {w w' : World} {base B : Nat} {v : Value} {l : List Tok} (h : OwnT w base v l) (hb : Below B w w') (hB : w.heap.size ≤ B) : OwnT w' base v l := by
  obtain ⟨hl, h'⟩ := h
  refine ⟨hl, ?_⟩
  rcases h' with h1 | ⟨g', cap', cur, hv, h1, hg, h2⟩
  · exact .inl h1
  · have hlt : g' < w.heap.size := by
      rcases Nat.lt_or_ge g' w.heap.size with h | h
      · exact h
      · rw [Array.getElem?_eq_none h] at hg; cases hg
    exact .inr ⟨g', cap', cur, hv, h1, (hb.block g' (by omega)).trans hg, h2⟩
theorem OwnT.base_le {w : World} {base base' : Nat} {v : Value} {l : List Tok} (h : OwnT w base v l) (hb : base' ≤ base) : OwnT w base' v l :=
  ⟨h.1, h.2.elim Or.inl (fun ⟨g, cap, cur, hv, hg, r⟩ => Or.inr ⟨g, cap, cur, hv, Nat.le_trans hb hg, r⟩)⟩
theorem tokCells_new (W : World) (t : Tok) (g : Nat) (hg : g = W.heap.size) : ∀ j u, (tokCells t)[j]? = some u → (W.alloc (.cells #[.int .i64 t.kind, .string (strOfNums t.text), .int .i64 t.place] 282)).cell? ((⟨g, 0, none⟩ : Addr).add j) = some u := by
  intro j u hu
  subst hg
  rw [add_plain, Nat.zero_add, cell_of_row _ _ _ _ _ (0, 0) (heap_alloc_new W _)]
  simpa [tokCells] using hu
theorem tokCells_one (t : Tok) : ∀ u ∈ tokCells t, u.oneCell' = true := by
  intro u hu
  simp [tokCells] at hu
  rcases hu with rfl | rfl | rfl <;> rfl
theorem OwnT.lt {w : World} {base : Nat} {v : Value} {l : List Tok} (h : OwnT w base v l) : ∀ k, v.ownBlock = some k → base ≤ k ∧ k < w.heap.size := by
  intro k hk
  rcases h.2 with ⟨rfl, _⟩ | ⟨g, cap, cur, rfl, hb, hg, _⟩
  · simp [Value.ownBlock] at hk
  · simp [Value.ownBlock] at hk
    subst hk
    refine ⟨hb, ?_⟩
    rcases Nat.lt_or_ge g w.heap.size with h' | h'
    · exact h'
    · rw [Array.getElem?_eq_none h'] at hg; cases hg
theorem OwnT.snoc {w : World} {base : Nat} {v : Value} {l : List Tok} {t : Tok} (h : w.ownsRow base 282 3 v (l.length + 1) (toksCells l ++ tokCells t)) : OwnT w base v (l ++ [t]) := by
  unfold OwnT
  rw [toksCells_snoc, List.length_append, List.length_singleton]
  exact h
theorem grown_new {W0 W3 W4 : World} {v x y z : Value} {l : List Tok} {o : Obj} (hO : OwnT W3 W0.heap.size v l) (hb : Below W0.heap.size W0 W3) (hg : ((W3.alloc (.cells #[x, y, z] 282)).alloc o).grownBy W4 v.ownBlock) :
    W4.cell? ⟨W3.heap.size, 0, none⟩ = some x ∧ Below W0.heap.size W0 W4 := by
  have hs := hb.size
  constructor
  · rw [World.cell?_of_block (a := ⟨W3.heap.size, 0, none⟩) (hg.block W3.heap.size (by simp; omega) (fun e => by have := hO.lt _ e.symm; omega))]
    rw [World.cell?_alloc_lt _ _ _ (by simp)]
    rw [cell_of_row _ _ _ _ _ (0, 0) (heap_alloc_new W3 _)]
    rfl
  · exact (((hb.alloc hs _).alloc (by simp; omega) _)).grown hg (by simp; omega) (fun k hk => (hO.lt k hk).1)
theorem OwnT.setFar {w : World} {base : Nat} {v : Value} {l : List Tok} (h : OwnT w base v l) {p : Addr} (hp : p.block < base) (x : Value) : OwnT (w.setCell p x) base v l := by
  obtain ⟨hl, h'⟩ := h
  refine ⟨hl, ?_⟩
  rcases h' with h1 | ⟨g', cap', cur, hv, h1, hg, h2⟩
  · exact .inl h1
  · exact .inr ⟨g', cap', cur, hv, h1, (Below.heap_setCell w p x g' (by omega)).trans hg, h2⟩
theorem OwnT.cells {w : World} {base : Nat} {v : Value} {l : List Tok} (h : OwnT w base v l) (hne : l ≠ []) :
    ∃ g c, v = .slice (some ⟨g, 0, none⟩) l.length c ∧ l.length ≤ c ∧ base ≤ g ∧ g < w.heap.size ∧ ∀ k, k < l.length * 3 → w.cell? ⟨g, k, none⟩ = (toksCells l)[k]? := by
  obtain ⟨hl, h'⟩ := h
  rcases h' with ⟨_, h0⟩ | ⟨g, cap, cur, rfl, hb, hg, hn, hm, hs, ht⟩
  · exact absurd (List.eq_nil_of_length_eq_zero h0) hne
  · have hlt : g < w.heap.size := by
      rcases Nat.lt_or_ge g w.heap.size with h | h
      · exact h
      · rw [Array.getElem?_eq_none h] at hg; cases hg
    refine ⟨g, cap, rfl, hn, hb, hlt, fun k hk => ?_⟩
    rw [cell_of_row w g k cur _ (0, 0) hg, ← ht, List.getElem?_take, if_pos hk, Array.getElem?_toList]
theorem tok_cell {w W : World} {g : Nat} {l : List Tok} (h : ∀ j, j < l.length * 3 → w.cell? ⟨g, j, none⟩ = (toksCells l)[j]?) (hg : g < w.heap.size) (hb : Below w.heap.size w W) (k : Nat) (t : Tok) (r : List Tok) (hk : l.drop k = t :: r) :
    k < l.length ∧ W.cell? ⟨g, k * 3, none⟩ = some (.int .i64 t.kind) ∧ W.cell? ⟨g, k * 3 + 1, none⟩ = some (.string (strOfNums t.text)) ∧ W.cell? ⟨g, k * 3 + 2, none⟩ = some (.int .i64 t.place) := by
  have hlt : k < l.length := by
    rcases Nat.lt_or_ge k l.length with h | h
    · exact h
    · rw [List.drop_eq_nil_of_le h] at hk; cases hk
  have hc : ∀ j, j < 3 → (toksCells l)[k * 3 + j]? = (tokCells t)[j]? := by
    intro j hj
    have e : toksCells l = toksCells (l.take k) ++ (tokCells t ++ toksCells r) := by
      conv => lhs; rw [← List.take_append_drop k l, hk]
      simp [toksCells]
    have hl1 : (toksCells (l.take k)).length = k * 3 := by
      rw [toksCells_length, List.length_take]
      omega
    rw [e, List.getElem?_append_right (by omega), hl1, show k * 3 + j - k * 3 = j by omega, List.getElem?_append_left (by simp [tokCells]; omega)]
  refine ⟨hlt, ?_, ?_, ?_⟩
  · rw [hb.cell (p := ⟨g, k * 3, none⟩) hg, h _ (by omega)]
    exact hc 0 (by omega)
  · rw [hb.cell (p := ⟨g, k * 3 + 1, none⟩) hg, h _ (by omega)]
    exact hc 1 (by omega)
  · rw [hb.cell (p := ⟨g, k * 3 + 2, none⟩) hg, h _ (by omega)]
    exact hc 2 (by omega)
end Go.Proofs.YtgbcchiheddfpaaGreatDoor
