/-
  'Exw R S B w w'': below block B the world w' is as w was, but for the blocks R and S; what keeps that. Conditions: those that each theorem names.
-/
import Derived.Test.YtneadcbadnicfaaDoorExc
namespace Go.Proofs.YtneadcbadnicfaaDoor
open Go.ChangeShapes Go.WideShapes Go.ChangeAt Go.RowKit

structure Exw (R S B : Nat) (w w' : World) : Prop where
  os : w'.os = w.os
  tape : w'.tape = w.tape
  output : w'.output = w.output
  size : w.heap.size ≤ w'.heap.size
  block : ∀ k, k < B → k ≠ R → k ≠ S → w'.heap[k]? = w.heap[k]?
theorem Exw.refl (R S B : Nat) (w : World) : Exw R S B w w := ⟨rfl, rfl, rfl, Nat.le_refl _, fun _ _ _ _ => rfl⟩
theorem Exw.trans {R S B : Nat} {a b c : World} (h : Exw R S B a b) (k : Exw R S B b c) : Exw R S B a c :=
  ⟨k.os.trans h.os, k.tape.trans h.tape, k.output.trans h.output, Nat.le_trans h.size k.size, fun i hi h1 h2 => (k.block i hi h1 h2).trans (h.block i hi h1 h2)⟩
theorem Exw.mono {R S B B' : Nat} {w w' : World} (h : Exw R S B w w') (hB : B' ≤ B) : Exw R S B' w w' := ⟨h.os, h.tape, h.output, h.size, fun k hk h1 h2 => h.block k (Nat.lt_of_lt_of_le hk hB) h1 h2⟩
theorem Exw.of_below {R S B : Nat} {w w' : World} (h : Below B w w') : Exw R S B w w' := ⟨h.os, h.tape, h.output, h.size, fun k hk _ _ => h.block k hk⟩
theorem Exw.then {R S : Nat} {a b c : World} (h : Exw R S a.heap.size a b) (k : Exw R S b.heap.size b c) : Exw R S a.heap.size a c := h.trans (k.mono h.size)
theorem Exw.bel {R S : Nat} {a b c : World} (h : Exw R S a.heap.size a b) (k : Below b.heap.size b c) : Exw R S a.heap.size a c := h.then (.of_below k)
theorem Exw.after {R S : Nat} {a b c : World} (h : Below a.heap.size a b) (k : Exw R S b.heap.size b c) : Exw R S a.heap.size a c := (Exw.of_below h).then k
theorem Exw.setCell {R S B : Nat} {a w : World} (h : Exw R S B a w) {p : Addr} (hp : p.block = R ∨ p.block = S ∨ B ≤ p.block) (u : Value) : Exw R S B a (w.setCell p u) :=
  ⟨h.os, h.tape, h.output, by rw [show (w.setCell p u).heap.size = w.heap.size by simp [World.setCell]]; exact h.size, fun k hk h1 h2 => (Below.heap_setCell _ _ _ _ (by omega)).trans (h.block k hk h1 h2)⟩
theorem Exw.drew {R S B : Nat} {a w : World} (h : Exw R S B a w) : Exw R S B a w.drew := ⟨h.os, h.tape, h.output, h.size, h.block⟩
theorem Exw.drewN {R S B : Nat} {a w : World} (h : Exw R S B a w) (n : Nat) : Exw R S B a (w.drewN n) := h.trans ⟨rfl, rfl, rfl, Nat.le_refl _, fun _ _ _ _ => rfl⟩
theorem Exw.cell {R S B : Nat} {w w' : World} (h : Exw R S B w w') {p : Addr} (hp : p.block < B) (h1 : p.block ≠ R) (h2 : p.block ≠ S) : w'.cell? p = w.cell? p := World.cell?_of_block (w := w) (h.block p.block hp h1 h2)
/-- Both blocks are new: nothing else has changed. -/
theorem Exw.below {R S B : Nat} {w w' : World} (h : Exw R S B w w') (hR : B ≤ R) (hS : B ≤ S) : Below B w w' := ⟨h.os, h.tape, h.output, h.size, fun k hk => h.block k hk (by omega) (by omega)⟩
theorem cell_exw {R S : Nat} {w W : World} (h : Exw R S w.heap.size w W) {p : Addr} {v : Value} (hp : w.cell? p = some v) (h1 : p.block ≠ R) (h2 : p.block ≠ S) : W.cell? p = some v := (h.cell (World.block_lt_of_cell? _ _ hp) h1 h2).trans hp
theorem blk_exw {R S B g : Nat} {w W : World} {o : Obj} (h : w.heap[g]? = some o) (hb : Exw R S B w W) (hg : g < B) (h1 : g ≠ R) (h2 : g ≠ S) : W.heap[g]? = some o := (hb.block g hg h1 h2).trans h
theorem Exw.ownsRow {R S : Nat} {w w' : World} (h : Exw R S w.heap.size w w') {base : Nat} {e : TypeId} {size : Nat} {v : Value} {n : Nat} {xs : List Value} (ho : w.ownsRow base e size v n xs) (hR : v.ownBlock ≠ some R) (hS : v.ownBlock ≠ some S) : w'.ownsRow base e size v n xs := by
  obtain ⟨hl, h'⟩ := ho
  refine ⟨hl, ?_⟩
  rcases h' with h1 | ⟨g, cap, cur, hv, hb, hg, hrest⟩
  · exact .inl h1
  · subst hv
    exact .inr ⟨g, cap, cur, rfl, hb, blk_exw hg h (blk_lt hg) (fun e => hR (by rw [e]; rfl)) (fun e => hS (by rw [e]; rfl)), hrest⟩
end Go.Proofs.YtneadcbadnicfaaDoor
