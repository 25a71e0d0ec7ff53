/-
  Slices of tokens of the call's own: how they lie in memory, cell by cell; what keeps them; small facts on numbers. Conditions: those that each theorem names.
  'Exc R B w w'': below block B the world w' is as w was, but for the block R; what keeps that. Conditions: those that each theorem names.
-/
import Derived.Test.YtmjmblbaojchcaaDoorPkC1
import Derived.Lib.ConvBytes
import Derived.Lib.AtoiErrMem
import Derived.Laws.EntriesVeiled
import Derived.Shelf.Abstract
namespace Go.Proofs.YtmjmblbaojchcaaDoor
open Go.ChangeShapes Go.WideShapes Go.ChangeAt Go.RowKit Go.Shelf

/-- A token's cells. -/
def tokCells (t : Tok) : List Value := [.int .i64 t.kind, .string (strOfNums t.text), .int .i64 t.place]
/-- The cells of some tokens. -/
def toksCells (l : List Tok) : List Value := l.flatMap tokCells
/-- A slice of tokens of the call's own. -/
def OwnT (w : World) (base : Nat) (v : Value) (l : List Tok) : Prop := w.ownsRow base 57 3 v l.length (toksCells l)
theorem toksCells_length (l : List Tok) : (toksCells l).length = l.length * 3 := by
  induction l with
  | nil => rfl
  | cons a r ih =>
    have e : toksCells (a :: r) = tokCells a ++ toksCells r := rfl
    rw [e, List.length_append, ih, List.length_cons]
    simp [tokCells]
    omega
theorem toksCells_snoc (l : List Tok) (t : Tok) : toksCells (l ++ [t]) = toksCells l ++ tokCells t := by
  simp [toksCells]
theorem ownT_nil (w : World) (base : Nat) : OwnT w base (.slice none 0 0) [] := World.ownsRow_nil w base _ _
theorem tok_info : (Tryd.prog.info? 57).map (fun i => (i.zero, i.size, i.bytes)) = some (some (.agg #[.int .i64 0, .string ⟨#[]⟩, .int .i64 0]), 3, 32) := by kernel_rfl
def lenOf : Value → Nat
  | .slice _ n _ => n
  | _ => 0
theorem OwnT.form {w : World} {base : Nat} {v : Value} {l : List Tok} (h : OwnT w base v l) : ∃ a c, v = .slice a l.length c := by
  rcases h.2 with ⟨rfl, h0⟩ | ⟨g, cap, _, rfl, _⟩
  · rw [h0]
    exact ⟨_, _, rfl⟩
  · exact ⟨_, _, rfl⟩
theorem OwnT.below {w w' : World} {base B : Nat} {v : Value} {l : List Tok} (h : OwnT w base v l) (hb : Below B w w') (hB : w.heap.size ≤ B) : OwnT w' base v l := by
  obtain ⟨hl, h'⟩ := h
  refine ⟨hl, ?_⟩
  rcases h' with h1 | ⟨g', cap', cur, hv, h1, hg, h2⟩
  · exact .inl h1
  · have hlt : g' < w.heap.size := by
      rcases Nat.lt_or_ge g' w.heap.size with h | h
      · exact h
      · rw [Array.getElem?_eq_none h] at hg; cases hg
    exact .inr ⟨g', cap', cur, hv, h1, (hb.block g' (by omega)).trans hg, h2⟩
theorem OwnT.base_le {w : World} {base base' : Nat} {v : Value} {l : List Tok} (h : OwnT w base v l) (hb : base' ≤ base) : OwnT w base' v l :=
  ⟨h.1, h.2.elim Or.inl (fun ⟨g, cap, cur, hv, hg, r⟩ => Or.inr ⟨g, cap, cur, hv, Nat.le_trans hb hg, r⟩)⟩
theorem tokCells_new (W : World) (t : Tok) (g : Nat) (hg : g = W.heap.size) : ∀ j u, (tokCells t)[j]? = some u → (W.alloc (.cells #[.int .i64 t.kind, .string (strOfNums t.text), .int .i64 t.place] 57)).cell? ((⟨g, 0, none⟩ : Addr).add j) = some u := by
  intro j u hu
  subst hg
  rw [add_plain, Nat.zero_add, cell_of_row _ _ _ _ _ (0, 0) (heap_alloc_new W _)]
  simpa [tokCells] using hu
theorem tokCells_one (t : Tok) : ∀ u ∈ tokCells t, u.oneCell' = true := by
  intro u hu
  simp [tokCells] at hu
  rcases hu with rfl | rfl | rfl <;> rfl
theorem OwnT.lt {w : World} {base : Nat} {v : Value} {l : List Tok} (h : OwnT w base v l) : ∀ k, v.ownBlock = some k → base ≤ k ∧ k < w.heap.size := by
  intro k hk
  rcases h.2 with ⟨rfl, _⟩ | ⟨g, cap, cur, rfl, hb, hg, _⟩
  · simp [Value.ownBlock] at hk
  · simp [Value.ownBlock] at hk
    subst hk
    refine ⟨hb, ?_⟩
    rcases Nat.lt_or_ge g w.heap.size with h' | h'
    · exact h'
    · rw [Array.getElem?_eq_none h'] at hg; cases hg
theorem OwnT.snoc {w : World} {base : Nat} {v : Value} {l : List Tok} {t : Tok} (h : w.ownsRow base 57 3 v (l.length + 1) (toksCells l ++ tokCells t)) : OwnT w base v (l ++ [t]) := by
  unfold OwnT
  rw [toksCells_snoc, List.length_append, List.length_singleton]
  exact h
theorem grown_new {W0 W3 W4 : World} {v x y z : Value} {l : List Tok} {o : Obj} (hO : OwnT W3 W0.heap.size v l) (hb : Below W0.heap.size W0 W3) (hg : ((W3.alloc (.cells #[x, y, z] 57)).alloc o).grownBy W4 v.ownBlock) :
    W4.cell? ⟨W3.heap.size, 0, none⟩ = some x ∧ Below W0.heap.size W0 W4 := by
  have hs := hb.size
  constructor
  · rw [World.cell?_of_block (a := ⟨W3.heap.size, 0, none⟩) (hg.block W3.heap.size (by simp; omega) (fun e => by have := hO.lt _ e.symm; omega))]
    rw [World.cell?_alloc_lt _ _ _ (by simp)]
    rw [cell_of_row _ _ _ _ _ (0, 0) (heap_alloc_new W3 _)]
    rfl
  · exact (((hb.alloc hs _).alloc (by simp; omega) _)).grown hg (by simp; omega) (fun k hk => (hO.lt k hk).1)
theorem OwnT.setFar {w : World} {base : Nat} {v : Value} {l : List Tok} (h : OwnT w base v l) {p : Addr} (hp : p.block < base) (x : Value) : OwnT (w.setCell p x) base v l := by
  obtain ⟨hl, h'⟩ := h
  refine ⟨hl, ?_⟩
  rcases h' with h1 | ⟨g', cap', cur, hv, h1, hg, h2⟩
  · exact .inl h1
  · exact .inr ⟨g', cap', cur, hv, h1, (Below.heap_setCell w p x g' (by omega)).trans hg, h2⟩
theorem OwnT.cells {w : World} {base : Nat} {v : Value} {l : List Tok} (h : OwnT w base v l) (hne : l ≠ []) :
    ∃ g c, v = .slice (some ⟨g, 0, none⟩) l.length c ∧ l.length ≤ c ∧ base ≤ g ∧ g < w.heap.size ∧ ∀ k, k < l.length * 3 → w.cell? ⟨g, k, none⟩ = (toksCells l)[k]? := by
  obtain ⟨hl, h'⟩ := h
  rcases h' with ⟨_, h0⟩ | ⟨g, cap, cur, rfl, hb, hg, hn, hm, hs, ht⟩
  · exact absurd (List.eq_nil_of_length_eq_zero h0) hne
  · have hlt : g < w.heap.size := by
      rcases Nat.lt_or_ge g w.heap.size with h | h
      · exact h
      · rw [Array.getElem?_eq_none h] at hg; cases hg
    refine ⟨g, cap, rfl, hn, hb, hlt, fun k hk => ?_⟩
    rw [cell_of_row w g k cur _ (0, 0) hg, ← ht, List.getElem?_take, if_pos hk, Array.getElem?_toList]
/-- A slice of tokens, cell by cell. -/
theorem tok_cell {w W : World} {g : Nat} {l : List Tok} (h : ∀ j, j < l.length * 3 → w.cell? ⟨g, j, none⟩ = (toksCells l)[j]?) (hg : g < w.heap.size) (hb : Below w.heap.size w W) (k : Nat) (t : Tok) (r : List Tok) (hk : l.drop k = t :: r) :
    k < l.length ∧ W.cell? ⟨g, k * 3, none⟩ = some (.int .i64 t.kind) ∧ W.cell? ⟨g, k * 3 + 1, none⟩ = some (.string (strOfNums t.text)) ∧ W.cell? ⟨g, k * 3 + 2, none⟩ = some (.int .i64 t.place) := by
  have hlt : k < l.length := by
    rcases Nat.lt_or_ge k l.length with h | h
    · exact h
    · rw [List.drop_eq_nil_of_le h] at hk; cases hk
  have hc : ∀ j, j < 3 → (toksCells l)[k * 3 + j]? = (tokCells t)[j]? := by
    intro j hj
    have e : toksCells l = toksCells (l.take k) ++ (tokCells t ++ toksCells r) := by
      conv => lhs; rw [← List.take_append_drop k l, hk]
      simp [toksCells]
    have hl1 : (toksCells (l.take k)).length = k * 3 := by
      rw [toksCells_length, List.length_take]
      omega
    rw [e, List.getElem?_append_right (by omega), hl1, show k * 3 + j - k * 3 = j by omega, List.getElem?_append_left (by simp [tokCells]; omega)]
  refine ⟨hlt, ?_, ?_, ?_⟩
  · rw [hb.cell (p := ⟨g, k * 3, none⟩) hg, h _ (by omega)]
    exact hc 0 (by omega)
  · rw [hb.cell (p := ⟨g, k * 3 + 1, none⟩) hg, h _ (by omega)]
    exact hc 1 (by omega)
  · rw [hb.cell (p := ⟨g, k * 3 + 2, none⟩) hg, h _ (by omega)]
    exact hc 2 (by omega)
theorem wrap64_in (n : Int) (h1 : -9223372036854775808 ≤ n) (h2 : n ≤ 9223372036854775807) : wrap64 n = n := by
  unfold wrap64
  omega
end Go.Proofs.YtmjmblbaojchcaaDoor
namespace Go.Proofs.YtmjmblbaojchcaaDoor
open Go.ChangeShapes Go.WideShapes Go.ChangeAt Go.RowKit Go.Shelf

/-- Below block B the world w' is as w was, but for the block R. -/
structure Exc (R B : Nat) (w w' : World) : Prop where
  os : w'.os = w.os
  tape : w'.tape = w.tape
  output : w'.output = w.output
  size : w.heap.size ≤ w'.heap.size
  block : ∀ k, k < B → k ≠ R → w'.heap[k]? = w.heap[k]?
theorem Exc.refl (R B : Nat) (w : World) : Exc R B w w := ⟨rfl, rfl, rfl, Nat.le_refl _, fun _ _ _ => rfl⟩
theorem Exc.trans {R B : Nat} {a b c : World} (h : Exc R B a b) (k : Exc R B b c) : Exc R B a c :=
  ⟨k.os.trans h.os, k.tape.trans h.tape, k.output.trans h.output, Nat.le_trans h.size k.size, fun i hi hr => (k.block i hi hr).trans (h.block i hi hr)⟩
theorem Exc.mono {R B B' : Nat} {w w' : World} (h : Exc R B w w') (hB : B' ≤ B) : Exc R B' w w' := ⟨h.os, h.tape, h.output, h.size, fun k hk hr => h.block k (Nat.lt_of_lt_of_le hk hB) hr⟩
theorem Exc.of_below {R B : Nat} {w w' : World} (h : Below B w w') : Exc R B w w' := ⟨h.os, h.tape, h.output, h.size, fun k hk _ => h.block k hk⟩
/-- Two steps, each told from where it begins. -/
theorem Exc.then {R : Nat} {a b c : World} (h : Exc R a.heap.size a b) (k : Exc R b.heap.size b c) : Exc R a.heap.size a c := h.trans (k.mono h.size)
theorem Exc.thenB {R B : Nat} {a b c : World} (h : Exc R B a b) (hB : B ≤ a.heap.size) (k : Exc R b.heap.size b c) : Exc R B a c := h.trans (k.mono (Nat.le_trans hB h.size))
theorem Exc.bel {R B : Nat} {a b c : World} (h : Exc R B a b) (hB : B ≤ a.heap.size) (k : Below b.heap.size b c) : Exc R B a c := h.thenB hB (.of_below k)
theorem Exc.alloc {R B : Nat} {a w : World} (h : Exc R B a w) (hB : B ≤ w.heap.size) (o : Obj) : Exc R B a (w.alloc o) :=
  h.trans (.of_below ((Below.refl _ _).alloc hB o))
theorem Exc.drew {R B : Nat} {a w : World} (h : Exc R B a w) : Exc R B a w.drew := ⟨h.os, h.tape, h.output, h.size, h.block⟩
theorem Exc.setCell {R B : Nat} {a w : World} (h : Exc R B a w) {p : Addr} (hp : p.block = R ∨ B ≤ p.block) (u : Value) : Exc R B a (w.setCell p u) :=
  h.trans ⟨rfl, rfl, rfl, by simp [World.setCell], fun k hk hr => Below.heap_setCell _ _ _ _ (by rcases hp with h | h <;> omega)⟩
theorem Exc.grown {R B : Nat} {a w w' : World} {row : Option Nat} (h : Exc R B a w) (hg : w.grownBy w' row) (hB : B ≤ w.heap.size) (hr : ∀ k, row = some k → B ≤ k ∨ k = R) : Exc R B a w' :=
  h.trans ⟨hg.os, hg.tape, hg.output, hg.size, fun k hk hkr => hg.block k (by omega) (fun e => by have := hr k e.symm; omega)⟩
theorem Exc.cell {R B : Nat} {w w' : World} (h : Exc R B w w') {p : Addr} (hp : p.block < B) (hr : p.block ≠ R) : w'.cell? p = w.cell? p := World.cell?_of_block (w := w) (h.block p.block hp hr)
theorem Exc.frozen {R B : Nat} {w w' : World} (h : Exc R B w w') {p : Addr} (hp : p.block < B) (hr : p.block ≠ R) : w'.frozen? p = w.frozen? p := World.frozen?_of_block (w := w) (h.block p.block hp hr)
/-- Where R is a block of the call's own. -/
theorem Exc.below {R B : Nat} {w w' : World} (h : Exc R B w w') (hR : B ≤ R) : Below B w w' := ⟨h.os, h.tape, h.output, h.size, fun k hk => h.block k hk (by omega)⟩
/-- A row that the call owns, and that does not lie in R, stays. -/
theorem Exc.ownsRow {R : Nat} {w w' : World} (h : Exc R w.heap.size w w') {base : Nat} {e : TypeId} {size : Nat} {v : Value} {n : Nat} {xs : List Value} (ho : w.ownsRow base e size v n xs) (hR : v.ownBlock ≠ some R) : w'.ownsRow base e size v n xs := by
  obtain ⟨hl, h'⟩ := ho
  refine ⟨hl, ?_⟩
  rcases h' with h1 | ⟨g', cap', cur, hv, h1, hg, h2⟩
  · exact .inl h1
  · have hlt : g' < w.heap.size := by
      rcases Nat.lt_or_ge g' w.heap.size with h | h
      · exact h
      · rw [Array.getElem?_eq_none h] at hg; cases hg
    subst hv
    exact .inr ⟨g', cap', cur, rfl, h1, (h.block g' hlt (fun e => hR (by simp [Value.ownBlock, e]))).trans hg, h2⟩
theorem ownsRow_base {w : World} {base base' : Nat} {e : TypeId} {size : Nat} {v : Value} {n : Nat} {xs : List Value} (h : w.ownsRow base e size v n xs) (hb : base' ≤ base) : w.ownsRow base' e size v n xs :=
  ⟨h.1, h.2.elim Or.inl (fun ⟨g, cap, cur, hv, hg, r⟩ => Or.inr ⟨g, cap, cur, hv, Nat.le_trans hb hg, r⟩)⟩
theorem ownsRow_lt {w : World} {base : Nat} {e : TypeId} {size : Nat} {v : Value} {n : Nat} {xs : List Value} (h : w.ownsRow base e size v n xs) : ∀ k, v.ownBlock = some k → base ≤ k ∧ k < w.heap.size := by
  intro k hk
  rcases h.2 with ⟨rfl, _⟩ | ⟨g, cap, cur, rfl, hb, hg, _⟩
  · simp [Value.ownBlock] at hk
  · simp [Value.ownBlock] at hk
    subst hk
    refine ⟨hb, ?_⟩
    rcases Nat.lt_or_ge g w.heap.size with h' | h'
    · exact h'
    · rw [Array.getElem?_eq_none h'] at hg; cases hg
theorem ownsRow_form {w : World} {base : Nat} {e : TypeId} {size : Nat} {v : Value} {n : Nat} {xs : List Value} (h : w.ownsRow base e size v n xs) : ∃ a c, v = .slice a n c := by
  rcases h.2 with ⟨rfl, h0⟩ | ⟨g, cap, _, rfl, _⟩
  · rw [h0]
    exact ⟨_, _, rfl⟩
  · exact ⟨_, _, rfl⟩
/-- What lies in a block, told whole. -/
theorem blk_cell {w : World} {g : Nat} {cs : Array Value} {t : TypeId} (h : w.heap[g]? = some (.cells cs t (0, 0))) (i : Nat) : w.cell? ⟨g, i, none⟩ = cs[i]? := cell_of_row w g i cs t (0, 0) h
theorem blk_frozen {w : World} {g : Nat} {cs : Array Value} {t : TypeId} (h : w.heap[g]? = some (.cells cs t (0, 0))) (i : Nat) : w.frozen? ⟨g, i, none⟩ = false := by
  simp [World.frozen?, show w.heap[g]? = _ from h]
theorem blk_lt {w : World} {g : Nat} {o : Obj} (h : w.heap[g]? = some o) : g < w.heap.size := by
  rcases Nat.lt_or_ge g w.heap.size with h' | h'
  · exact h'
  · rw [Array.getElem?_eq_none h'] at h; cases h
theorem blk_set {w : World} {g : Nat} {cs : Array Value} {t : TypeId} (h : w.heap[g]? = some (.cells cs t (0, 0))) (i : Nat) (u : Value) : (w.setCell ⟨g, i, none⟩ u).heap[g]? = some (.cells (cs.setIfInBounds i u) t (0, 0)) := by
  simp [World.setCell, Array.getElem?_modify, h]
theorem blk_set_ne {w : World} {g : Nat} {o : Obj} (h : w.heap[g]? = some o) {p : Addr} (hp : p.block ≠ g) (u : Value) : (w.setCell p u).heap[g]? = some o :=
  (Below.heap_setCell w p u g (fun e => hp e.symm)).trans h
theorem blk_alloc {w : World} {g : Nat} {o : Obj} (h : w.heap[g]? = some o) (o' : Obj) : (w.alloc o').heap[g]? = some o :=
  (Below.heap_alloc w o' g (blk_lt h)).trans h
theorem blk2 {w : World} {g : Nat} {x y : Value} {t : TypeId} (h : w.heap[g]? = some (.cells #[x, y] t (0, 0))) :
    g < w.heap.size ∧ w.cell? ⟨g, 0, none⟩ = some x ∧ w.cell? ⟨g, 1, none⟩ = some y ∧ w.frozen? ⟨g, 0, none⟩ = false ∧ w.frozen? ⟨g, 1, none⟩ = false :=
  ⟨blk_lt h, (blk_cell h 0).trans rfl, (blk_cell h 1).trans rfl, blk_frozen h 0, blk_frozen h 1⟩
theorem blk3 {w : World} {g : Nat} {x y z : Value} {t : TypeId} (h : w.heap[g]? = some (.cells #[x, y, z] t (0, 0))) :
    g < w.heap.size ∧ w.cell? ⟨g, 0, none⟩ = some x ∧ w.cell? ⟨g, 1, none⟩ = some y ∧ w.cell? ⟨g, 2, none⟩ = some z ∧ w.frozen? ⟨g, 0, none⟩ = false ∧ w.frozen? ⟨g, 1, none⟩ = false ∧ w.frozen? ⟨g, 2, none⟩ = false :=
  ⟨blk_lt h, (blk_cell h 0).trans rfl, (blk_cell h 1).trans rfl, (blk_cell h 2).trans rfl, blk_frozen h 0, blk_frozen h 1, blk_frozen h 2⟩
theorem blk_below {w W : World} {B g : Nat} {o : Obj} (h : w.heap[g]? = some o) (hb : Below B w W) (hg : g < B) : W.heap[g]? = some o := (hb.block g hg).trans h
theorem blk_exc {w W : World} {R B g : Nat} {o : Obj} (h : w.heap[g]? = some o) (hb : Exc R B w W) (hg : g < B) (hne : g ≠ R) : W.heap[g]? = some o := (hb.block g hg hne).trans h
/-- The world behind a walk by what is known of it. -/
theorem post_gen {P : Program} {f : Func} {Q : Ending → World → Prop} {ex : Exit} {a : Act} {W : World} (p : World → Prop) (hp : p W) (k : ∀ Wf, p Wf → bodyPost P f Q ex a Wf) : bodyPost P f Q ex a W := k W hp
/-- A block of which each cell but the named one stays; and one all of whose three cells are written. -/
theorem blk_set3 {w : World} {g : Nat} {x y z : Value} {t : TypeId} (h : w.heap[g]? = some (.cells #[x, y, z] t (0, 0))) (x' y' z' : Value) :
    (((w.setCell ⟨g, 0, none⟩ x').setCell ⟨g, 1, none⟩ y').setCell ⟨g, 2, none⟩ z').heap[g]? = some (.cells #[x', y', z'] t (0, 0)) :=
  (blk_set (blk_set (blk_set h 0 x') 1 y') 2 z').trans rfl
theorem blk_set2 {w : World} {g : Nat} {x y : Value} {t : TypeId} (h : w.heap[g]? = some (.cells #[x, y] t (0, 0))) (x' y' : Value) :
    ((w.setCell ⟨g, 0, none⟩ x').setCell ⟨g, 1, none⟩ y').heap[g]? = some (.cells #[x', y'] t (0, 0)) :=
  (blk_set (blk_set h 0 x') 1 y').trans rfl
theorem exc_set (w : World) (g i : Nat) (x : Value) : Exc g w.heap.size w (w.setCell ⟨g, i, none⟩ x) := (Exc.refl g _ w).setCell (p := ⟨g, i, none⟩) (.inl rfl) x
theorem exc_set3 (w : World) (g : Nat) (x y z : Value) : Exc g w.heap.size w (((w.setCell ⟨g, 0, none⟩ x).setCell ⟨g, 1, none⟩ y).setCell ⟨g, 2, none⟩ z) :=
  ((exc_set w g 0 x).setCell (p := ⟨g, 1, none⟩) (.inl rfl) y).setCell (p := ⟨g, 2, none⟩) (.inl rfl) z
theorem Exc.set3 {R B : Nat} {a w : World} (h : Exc R B a w) {g : Nat} (hg : B ≤ g) (x y z : Value) : Exc R B a (((w.setCell ⟨g, 0, none⟩ x).setCell ⟨g, 1, none⟩ y).setCell ⟨g, 2, none⟩ z) :=
  ((h.setCell (p := ⟨g, 0, none⟩) (.inr hg) x).setCell (p := ⟨g, 1, none⟩) (.inr hg) y).setCell (p := ⟨g, 2, none⟩) (.inr hg) z
theorem Exc.set1 {R B : Nat} {a w : World} (h : Exc R B a w) {g : Nat} (hg : B ≤ g) (i : Nat) (x : Value) : Exc R B a (w.setCell ⟨g, i, none⟩ x) :=
  h.setCell (p := ⟨g, i, none⟩) (.inr hg) x
end Go.Proofs.YtmjmblbaojchcaaDoor
