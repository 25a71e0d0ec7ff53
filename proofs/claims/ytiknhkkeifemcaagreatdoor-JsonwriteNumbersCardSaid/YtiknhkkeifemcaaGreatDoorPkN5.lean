/-
  Rows of numbers of the call's own; the document's SameInts. Conditions: those that each theorem names.
-/
import Derived.Test.YtiknhkkeifemcaaGreatDoorPkN1
import Derived.Test.YtiknhkkeifemcaaGreatDoorPkN2
import Derived.Lib.ConvBytes
import Derived.Laws.BytesArg
import Derived.Laws.EntriesVeiled
import Derived.Shelf.Abstract
import Derived.Test.YtiknhkkeifemcaaGreatDoorRows
import Derived.WalkKit
import Derived.ProofKit
import Derived.OpenShut
import Derived.ShutString
import Derived.ChangeOld
import Derived.Below
import Derived.WalkLawsBesides
import Derived.WalkSpells
import Derived.Lib.Hide
import Derived.Outline
import Derived.Handy
import Derived.BigQuiet
namespace Go.Proofs.YtiknhkkeifemcaaGreatDoor
open Go.ChangeShapes Go.WideShapes Go.ChangeAt Go.RowKit Go.Shelf

structure Exc (R B : Nat) (w w' : World) : Prop where
  os : w'.os = w.os
  tape : w'.tape = w.tape
  output : w'.output = w.output
  size : w.heap.size ≤ w'.heap.size
  block : ∀ k, k < B → k ≠ R → w'.heap[k]? = w.heap[k]?
theorem Exc.refl (R B : Nat) (w : World) : Exc R B w w := ⟨rfl, rfl, rfl, Nat.le_refl _, fun _ _ _ => rfl⟩
theorem Exc.trans {R B : Nat} {a b c : World} (h : Exc R B a b) (k : Exc R B b c) : Exc R B a c :=
  ⟨k.os.trans h.os, k.tape.trans h.tape, k.output.trans h.output, Nat.le_trans h.size k.size, fun i hi hr => (k.block i hi hr).trans (h.block i hi hr)⟩
theorem Exc.mono {R B B' : Nat} {w w' : World} (h : Exc R B w w') (hB : B' ≤ B) : Exc R B' w w' := ⟨h.os, h.tape, h.output, h.size, fun k hk hr => h.block k (Nat.lt_of_lt_of_le hk hB) hr⟩
theorem Exc.of_below {R B : Nat} {w w' : World} (h : Below B w w') : Exc R B w w' := ⟨h.os, h.tape, h.output, h.size, fun k hk _ => h.block k hk⟩
theorem Exc.then {R : Nat} {a b c : World} (h : Exc R a.heap.size a b) (k : Exc R b.heap.size b c) : Exc R a.heap.size a c := h.trans (k.mono h.size)
theorem Exc.thenB {R B : Nat} {a b c : World} (h : Exc R B a b) (hB : B ≤ a.heap.size) (k : Exc R b.heap.size b c) : Exc R B a c := h.trans (k.mono (Nat.le_trans hB h.size))
theorem Exc.bel {R B : Nat} {a b c : World} (h : Exc R B a b) (hB : B ≤ a.heap.size) (k : Below b.heap.size b c) : Exc R B a c := h.thenB hB (.of_below k)
theorem Exc.alloc {R B : Nat} {a w : World} (h : Exc R B a w) (hB : B ≤ w.heap.size) (o : Obj) : Exc R B a (w.alloc o) :=
  h.trans (.of_below ((Below.refl _ _).alloc hB o))
theorem Exc.drew {R B : Nat} {a w : World} (h : Exc R B a w) : Exc R B a w.drew := ⟨h.os, h.tape, h.output, h.size, h.block⟩
theorem Exc.setCell {R B : Nat} {a w : World} (h : Exc R B a w) {p : Addr} (hp : p.block = R ∨ B ≤ p.block) (u : Value) : Exc R B a (w.setCell p u) :=
  h.trans ⟨rfl, rfl, rfl, by simp [World.setCell], fun k hk hr => Below.heap_setCell _ _ _ _ (by rcases hp with h | h <;> omega)⟩
theorem Exc.grown {R B : Nat} {a w w' : World} {row : Option Nat} (h : Exc R B a w) (hg : w.grownBy w' row) (hB : B ≤ w.heap.size) (hr : ∀ k, row = some k → B ≤ k ∨ k = R) : Exc R B a w' :=
  h.trans ⟨hg.os, hg.tape, hg.output, hg.size, fun k hk hkr => hg.block k (by omega) (fun e => by have := hr k e.symm; omega)⟩
theorem Exc.cell {R B : Nat} {w w' : World} (h : Exc R B w w') {p : Addr} (hp : p.block < B) (hr : p.block ≠ R) : w'.cell? p = w.cell? p := World.cell?_of_block (w := w) (h.block p.block hp hr)
theorem Exc.frozen {R B : Nat} {w w' : World} (h : Exc R B w w') {p : Addr} (hp : p.block < B) (hr : p.block ≠ R) : w'.frozen? p = w.frozen? p := World.frozen?_of_block (w := w) (h.block p.block hp hr)
theorem Exc.below {R B : Nat} {w w' : World} (h : Exc R B w w') (hR : B ≤ R) : Below B w w' := ⟨h.os, h.tape, h.output, h.size, fun k hk => h.block k hk (by omega)⟩
theorem Exc.ownsRow {R : Nat} {w w' : World} (h : Exc R w.heap.size w w') {base : Nat} {e : TypeId} {size : Nat} {v : Value} {n : Nat} {xs : List Value} (ho : w.ownsRow base e size v n xs) (hR : v.ownBlock ≠ some R) : w'.ownsRow base e size v n xs := by
  obtain ⟨hl, h'⟩ := ho
  refine ⟨hl, ?_⟩
  rcases h' with h1 | ⟨g', cap', cur, hv, h1, hg, h2⟩
  · exact .inl h1
  · have hlt : g' < w.heap.size := by
      rcases Nat.lt_or_ge g' w.heap.size with h | h
      · exact h
      · rw [Array.getElem?_eq_none h] at hg; cases hg
    subst hv
    exact .inr ⟨g', cap', cur, rfl, h1, (h.block g' hlt (fun e => hR (by simp [Value.ownBlock, e]))).trans hg, h2⟩
theorem ownsRow_base {w : World} {base base' : Nat} {e : TypeId} {size : Nat} {v : Value} {n : Nat} {xs : List Value} (h : w.ownsRow base e size v n xs) (hb : base' ≤ base) : w.ownsRow base' e size v n xs :=
  ⟨h.1, h.2.elim Or.inl (fun ⟨g, cap, cur, hv, hg, r⟩ => Or.inr ⟨g, cap, cur, hv, Nat.le_trans hb hg, r⟩)⟩
theorem ownsRow_lt {w : World} {base : Nat} {e : TypeId} {size : Nat} {v : Value} {n : Nat} {xs : List Value} (h : w.ownsRow base e size v n xs) : ∀ k, v.ownBlock = some k → base ≤ k ∧ k < w.heap.size := by
  intro k hk
  rcases h.2 with ⟨rfl, _⟩ | ⟨g, cap, cur, rfl, hb, hg, _⟩
  · simp [Value.ownBlock] at hk
  · simp [Value.ownBlock] at hk
    subst hk
    refine ⟨hb, ?_⟩
    rcases Nat.lt_or_ge g w.heap.size with h' | h'
    · exact h'
    · rw [Array.getElem?_eq_none h'] at hg; cases hg
theorem ownsRow_form {w : World} {base : Nat} {e : TypeId} {size : Nat} {v : Value} {n : Nat} {xs : List Value} (h : w.ownsRow base e size v n xs) : ∃ a c, v = .slice a n c := by
  rcases h.2 with ⟨rfl, h0⟩ | ⟨g, cap, _, rfl, _⟩
  · rw [h0]
    exact ⟨_, _, rfl⟩
  · exact ⟨_, _, rfl⟩
theorem blk_cell {w : World} {g : Nat} {cs : Array Value} {t : TypeId} (h : w.heap[g]? = some (.cells cs t (0, 0))) (i : Nat) : w.cell? ⟨g, i, none⟩ = cs[i]? := cell_of_row w g i cs t (0, 0) h
theorem blk_frozen {w : World} {g : Nat} {cs : Array Value} {t : TypeId} (h : w.heap[g]? = some (.cells cs t (0, 0))) (i : Nat) : w.frozen? ⟨g, i, none⟩ = false := by
  simp [World.frozen?, show w.heap[g]? = _ from h]
theorem blk_lt {w : World} {g : Nat} {o : Obj} (h : w.heap[g]? = some o) : g < w.heap.size := by
  rcases Nat.lt_or_ge g w.heap.size with h' | h'
  · exact h'
  · rw [Array.getElem?_eq_none h'] at h; cases h
theorem blk_set {w : World} {g : Nat} {cs : Array Value} {t : TypeId} (h : w.heap[g]? = some (.cells cs t (0, 0))) (i : Nat) (u : Value) : (w.setCell ⟨g, i, none⟩ u).heap[g]? = some (.cells (cs.setIfInBounds i u) t (0, 0)) := by
  simp [World.setCell, Array.getElem?_modify, h]
theorem blk_set_ne {w : World} {g : Nat} {o : Obj} (h : w.heap[g]? = some o) {p : Addr} (hp : p.block ≠ g) (u : Value) : (w.setCell p u).heap[g]? = some o :=
  (Below.heap_setCell w p u g (fun e => hp e.symm)).trans h
theorem blk_alloc {w : World} {g : Nat} {o : Obj} (h : w.heap[g]? = some o) (o' : Obj) : (w.alloc o').heap[g]? = some o :=
  (Below.heap_alloc w o' g (blk_lt h)).trans h
theorem blk2 {w : World} {g : Nat} {x y : Value} {t : TypeId} (h : w.heap[g]? = some (.cells #[x, y] t (0, 0))) :
    g < w.heap.size ∧ w.cell? ⟨g, 0, none⟩ = some x ∧ w.cell? ⟨g, 1, none⟩ = some y ∧ w.frozen? ⟨g, 0, none⟩ = false ∧ w.frozen? ⟨g, 1, none⟩ = false :=
  ⟨blk_lt h, (blk_cell h 0).trans rfl, (blk_cell h 1).trans rfl, blk_frozen h 0, blk_frozen h 1⟩
theorem blk3 {w : World} {g : Nat} {x y z : Value} {t : TypeId} (h : w.heap[g]? = some (.cells #[x, y, z] t (0, 0))) :
    g < w.heap.size ∧ w.cell? ⟨g, 0, none⟩ = some x ∧ w.cell? ⟨g, 1, none⟩ = some y ∧ w.cell? ⟨g, 2, none⟩ = some z ∧ w.frozen? ⟨g, 0, none⟩ = false ∧ w.frozen? ⟨g, 1, none⟩ = false ∧ w.frozen? ⟨g, 2, none⟩ = false :=
  ⟨blk_lt h, (blk_cell h 0).trans rfl, (blk_cell h 1).trans rfl, (blk_cell h 2).trans rfl, blk_frozen h 0, blk_frozen h 1, blk_frozen h 2⟩
theorem blk_below {w W : World} {B g : Nat} {o : Obj} (h : w.heap[g]? = some o) (hb : Below B w W) (hg : g < B) : W.heap[g]? = some o := (hb.block g hg).trans h
theorem blk_exc {w W : World} {R B g : Nat} {o : Obj} (h : w.heap[g]? = some o) (hb : Exc R B w W) (hg : g < B) (hne : g ≠ R) : W.heap[g]? = some o := (hb.block g hg hne).trans h
theorem post_gen {P : Program} {f : Func} {Q : Ending → World → Prop} {ex : Exit} {a : Act} {W : World} (p : World → Prop) (hp : p W) (k : ∀ Wf, p Wf → bodyPost P f Q ex a Wf) : bodyPost P f Q ex a W := k W hp
theorem blk_set3 {w : World} {g : Nat} {x y z : Value} {t : TypeId} (h : w.heap[g]? = some (.cells #[x, y, z] t (0, 0))) (x' y' z' : Value) :
    (((w.setCell ⟨g, 0, none⟩ x').setCell ⟨g, 1, none⟩ y').setCell ⟨g, 2, none⟩ z').heap[g]? = some (.cells #[x', y', z'] t (0, 0)) :=
  (blk_set (blk_set (blk_set h 0 x') 1 y') 2 z').trans rfl
theorem exc_set (w : World) (g i : Nat) (x : Value) : Exc g w.heap.size w (w.setCell ⟨g, i, none⟩ x) := (Exc.refl g _ w).setCell (p := ⟨g, i, none⟩) (.inl rfl) x
end Go.Proofs.YtiknhkkeifemcaaGreatDoor
namespace Go.Proofs.YtiknhkkeifemcaaGreatDoor
open Go.ChangeShapes Go.WideShapes Go.ChangeAt Go.RowKit Go.Shelf

theorem row_at {w : World} {base : Nat} {e : TypeId} {size : Nat} {v : Value} {n : Nat} {xs : List Value} (h : w.ownsRow base e size v n xs) (hn : 0 < n) :
    ∃ g c, v = .slice (some ⟨g, 0, none⟩) n c ∧ n ≤ c ∧ base ≤ g ∧ g < w.heap.size ∧ ∀ k, k < n * size → w.cell? ⟨g, k, none⟩ = xs[k]? := by
  rcases h.2 with ⟨_, h0⟩ | ⟨g, cap, cur, rfl, hb, hg, hnc, hm, hs, ht⟩
  · omega
  · refine ⟨g, cap, rfl, hnc, hb, blk_lt hg, fun k hk => ?_⟩
    rw [cell_of_row w g k cur _ (0, 0) hg, ← ht, List.getElem?_take, if_pos hk, Array.getElem?_toList]
theorem flat_at {α : Type} (f : α → List Value) (m : Nat) (hm : ∀ a, (f a).length = m) : ∀ (l : List α) (k : Nat) (hk : k < l.length) (j : Nat), j < m → (l.flatMap f)[k * m + j]? = (f l[k])[j]?
  | [], k, hk, _, _ => absurd hk (Nat.not_lt_zero k)
  | a :: r, 0, _, j, hj => by
    rw [List.flatMap_cons, Nat.zero_mul, Nat.zero_add, List.getElem?_append_left (by rw [hm]; exact hj)]
    rfl
  | a :: r, k + 1, hk, j, hj => by
    have e : (k + 1) * m + j = m + (k * m + j) := by rw [Nat.succ_mul]; omega
    rw [List.flatMap_cons, List.getElem?_append_right (by rw [hm, e]; omega), hm, show (k + 1) * m + j - m = k * m + j by omega]
    exact flat_at f m hm r k (Nat.lt_of_succ_lt_succ hk) j hj
theorem row_el {α : Type} (f : α → List Value) (m : Nat) (hm : ∀ a, (f a).length = m) {w : World} {base : Nat} {e : TypeId} {v : Value} {l : List α} (h : w.ownsRow base e m v l.length (l.flatMap f)) (k : Nat) (hk : k < l.length) :
    ∃ g c, v = .slice (some ⟨g, 0, none⟩) l.length c ∧ l.length ≤ c ∧ g < w.heap.size ∧ ∀ j, j < m → w.cell? ⟨g, k * m + j, none⟩ = (f l[k])[j]? := by
  obtain ⟨g, c, hv, hc, _, hg, hcell⟩ := row_at h (by omega)
  refine ⟨g, c, hv, hc, hg, fun j hj => ?_⟩
  have hlt : k * m + j < l.length * m := by
    have h1 : (k + 1) * m ≤ l.length * m := Nat.mul_le_mul_right m hk
    rw [Nat.succ_mul] at h1
    omega
  rw [hcell _ hlt, flat_at f m hm l k hk j hj]
theorem row_few {w : World} {base : Nat} {e : TypeId} {size : Nat} {v : Value} {n : Nat} {xs : List Value} (h : w.ownsRow base e size v n xs) : n ≤ 9223372036854775807 := by
  rcases h.2 with ⟨_, h0⟩ | ⟨g, cap, cur, rfl, hb, hg, hnc, hm, _⟩
  · omega
  · unfold maxLen at hm
    omega
theorem slice_inj {a b : Option Addr} {n c n' c' : Nat} (h : Value.slice a n c = .slice b n' c') : a = b ∧ c = c' := by
  injection h with h1 _ h3
  exact ⟨h1, h3⟩
theorem row_keep {w w' : World} (h : Below w.heap.size w w') {base : Nat} {e : TypeId} {size : Nat} {v : Value} {n : Nat} {xs : List Value} (ho : w.ownsRow base e size v n xs) : w'.ownsRow base e size v n xs := by
  obtain ⟨hl, h'⟩ := ho
  refine ⟨hl, ?_⟩
  rcases h' with h1 | ⟨g', cap', cur, hv, h1, hg', h2⟩
  · exact .inl h1
  · exact .inr ⟨g', cap', cur, hv, h1, (h.block g' (blk_lt hg')).trans hg', h2⟩
end Go.Proofs.YtiknhkkeifemcaaGreatDoor
namespace Go.Proofs.YtiknhkkeifemcaaGreatDoor
open Go.ChangeShapes Go.WideShapes Go.ChangeAt Go.RowKit Go.Shelf

def i64Cell (z : Int) : List Value := [.int .i64 z]
def i64Cells (l : List Int) : List Value := l.flatMap i64Cell
theorem i64Cells_map (l : List Int) : i64Cells l = l.map (Value.int .i64) := by
  induction l with
  | nil => rfl
  | cons a r ih => rw [List.map_cons, ← ih]; rfl
end Go.Proofs.YtiknhkkeifemcaaGreatDoor
