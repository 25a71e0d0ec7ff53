/-
  What ArenaPlays knows of its calls that came in, and of its memory at the loop's head: at the start, and from there into a round and back. Conditions: those that each theorem names.
-/
import Derived.Test.YtennhmaiecfgpaaPlay
namespace Go.Proofs.Ytennhmaiecfgpaa
open Go.ChangeShapes Go.WideShapes Go.ChangeAt Go.RowKit

/-- A call of the slice that came in: its five cells. -/
def ActAt (w : World) (a : Option Addr) (r : Nat) (K N S U : Int) (D : Option Addr) (dl dc : Nat) (Z : List Int) : Prop :=
  ∃ b off, a = some ⟨b, off, none⟩ ∧ b < w.heap.size ∧ w.cell? ⟨b, off + r * 5, none⟩ = some (.int .i64 K) ∧ w.cell? ⟨b, off + r * 5 + 1, none⟩ = some (.int .i64 N) ∧ w.cell? ⟨b, off + r * 5 + 2, none⟩ = some (.int .i64 S) ∧ w.cell? ⟨b, off + r * 5 + 3, none⟩ = some (.int .u64 U) ∧ w.cell? ⟨b, off + r * 5 + 4, none⟩ = some (.slice D dl dc) ∧
    (Lit.int .i64 K).wf = true ∧ (Lit.int .i64 N).wf = true ∧ (Lit.int .i64 S).wf = true ∧ (Lit.int .u64 U).wf = true ∧ IsRow .u8 w D dl dc Z
def IsActs (w : World) (a : Option Addr) (len : Nat) : Prop := len ≤ maxLen ∧ ∀ r, r < len → ∃ K N S U D dl dc Z, ActAt w a r K N S U D dl dc Z
/-- What the loop's head knows. -/
structure Play (w : World) (base ar : Nat) (L : Int) (zs : List Int) (over : Bool) (B : Option Addr) (cb : Nat) (A : Option Addr) (ca : Nat) : Prop where
  hm : w.heap[base]? = some (.cells #[.int .i64 L] 3 (0, 0))
  hb : w.heap[ar + 1]? = some (.cells #[.slice B zs.length cb] 26 (0, 0))
  hv : w.heap[ar + 2]? = some (.cells #[.bool over] 4 (0, 0))
  own : OwnV w (ar + 3) 5 B cb zs
  arena : IsArena w base ar A ca zs (atMost L) over
  rowA : ∀ k, rowOf A = some k → ar + 3 ≤ k
  apart : ∀ k, rowOf A = some k → rowOf B ≠ some k
  o1 : base < ar
  o2 : ar + 3 ≤ w.heap.size
theorem play_start {w2 : World} {base ar : Nat} {most L : Int} (hb : w2.heap[base]? = some (.cells #[.int .i64 most] 3 (0, 0))) (hs : w2.heap.size = ar + 1) (ha : IsArena w2 base ar none 0 [] (atMost L) false) (ho : base < ar) :
    Play (((w2.setCell ⟨base, 0, none⟩ (.int .i64 L)).alloc (.cells #[.slice none 0 0] 26)).alloc (.cells #[.bool false] 4)) base ar L [] false none 0 none 0 ∧ Below base w2 (((w2.setCell ⟨base, 0, none⟩ (.int .i64 L)).alloc (.cells #[.slice none 0 0] 26)).alloc (.cells #[.bool false] 4)) := by
  have hs3 : (w2.setCell ⟨base, 0, none⟩ (.int .i64 L)).heap.size = ar + 1 := by simpa [World.setCell] using hs
  have hs4 : ((w2.setCell ⟨base, 0, none⟩ (.int .i64 L)).alloc (.cells #[.slice none 0 0] 26)).heap.size = ar + 2 := by simp [hs3]
  have k1 : ∀ k, k < ar + 1 → k ≠ base → (((w2.setCell ⟨base, 0, none⟩ (.int .i64 L)).alloc (.cells #[.slice none 0 0] 26)).alloc (.cells #[.bool false] 4)).heap[k]? = w2.heap[k]? := fun k hk hn =>
    (Below.heap_alloc _ _ _ (by omega)).trans ((Below.heap_alloc _ _ _ (by omega)).trans (Below.heap_setCell _ _ _ _ hn))
  refine ⟨⟨?_, ?_, ?_, World.ownsRow_nil _ _ _ 1, ?_, ?_, ?_, ho, by simp [hs4]⟩, ?_⟩
  · exact (Below.heap_alloc _ _ _ (by omega)).trans ((Below.heap_alloc _ _ _ (by omega)).trans (one_setCell hb))
  · have := heap_alloc_new (w2.setCell ⟨base, 0, none⟩ (.int .i64 L)) (.cells #[.slice none 0 0] 26)
    rw [hs3] at this
    exact (Below.heap_alloc _ _ _ (by omega)).trans this
  · have := heap_alloc_new ((w2.setCell ⟨base, 0, none⟩ (.int .i64 L)).alloc (.cells #[.slice none 0 0] 26)) (.cells #[.bool false] 4)
    rw [hs4] at this
    exact this
  · exact ha.kept (by simp [hs4]; omega) (k1 _ (by omega) (by omega)) (fun k hk => by cases hk)
  · intro k hk; cases hk
  · intro k hk; cases hk
  · exact (((Below.refl base w2).setCell (Nat.le_refl _) _).alloc (by omega) _).alloc (by omega) _
theorem Play.below {w w' : World} {base ar : Nat} {L : Int} {zs : List Int} {over : Bool} {B : Option Addr} {cb : Nat} {A : Option Addr} {ca : Nat} (h : Play w base ar L zs over B cb A ca) (hb : Below w.heap.size w w') : Play w' base ar L zs over B cb A ca := by
  have o1 := h.o1
  have o2 := h.o2
  exact ⟨(hb.block _ (by omega)).trans h.hm, (hb.block _ (by omega)).trans h.hb, (hb.block _ (by omega)).trans h.hv, h.own.kept (fun k hk => hb.block k (h.own.row k hk).2), h.arena.below hb, h.rowA, h.apart, o1, Nat.le_trans o2 hb.size⟩
theorem Rnd.play {w : World} {base ar x : Nat} {L K N S U : Int} {D : Option Addr} {dl dc : Nat} {zs : List Int} {over : Bool} {B : Option Addr} {cb : Nat} {A : Option Addr} {ca : Nat} {want : Int} {is : Bool} (h : Rnd w base ar x L K N S U D dl dc zs over B cb zs over A ca want is) : Play w base ar L zs over B cb A ca :=
  ⟨h.hm, h.hb, h.hv, h.own, h.arena, fun k hk => (h.rowA k hk).1, h.apart, h.o1, by have := h.o2; have := h.o3; omega⟩
/-- A round's three variables are made. -/
theorem Play.rnd {w : World} {base ar : Nat} {L : Int} {zs : List Int} {over : Bool} {B : Option Addr} {cb : Nat} {A : Option Addr} {ca : Nat} (h : Play w base ar L zs over B cb A ca) (K N S U : Int) (D : Option Addr) (dl dc : Nat) {w3 : World}
    (hw3 : w3 = ((w.alloc (.cells #[.int .i64 K, .int .i64 N, .int .i64 S, .int .u64 U, .slice D dl dc] 29)).alloc (.cells #[.int .i64 0] 3)).alloc (.cells #[.bool false] 4)) :
    Rnd w3 base ar w.heap.size L K N S U D dl dc zs over B cb zs over A ca 0 false ∧ Below base w w3 := by
  have o1 := h.o1
  have o2 := h.o2
  obtain ⟨w1, hw1⟩ : ∃ w1, w.alloc (.cells #[.int .i64 K, .int .i64 N, .int .i64 S, .int .u64 U, .slice D dl dc] 29) = w1 := ⟨_, rfl⟩
  obtain ⟨w2, hw2⟩ : ∃ w2, w1.alloc (.cells #[.int .i64 0] 3) = w2 := ⟨_, rfl⟩
  rw [hw1, hw2] at hw3
  have s1 : w1.heap.size = w.heap.size + 1 := by rw [← hw1]; simp
  have s2 : w2.heap.size = w.heap.size + 2 := by rw [← hw2]; simp [s1]
  have s3 : w3.heap.size = w.heap.size + 3 := by rw [hw3]; simp [s2]
  have b1 : Below w.heap.size w w1 := by rw [← hw1]; exact (Below.refl _ _).alloc (Nat.le_refl _) _
  have b2 : Below w1.heap.size w1 w2 := by rw [← hw2]; exact (Below.refl _ _).alloc (Nat.le_refl _) _
  have b3 : Below w2.heap.size w2 w3 := by rw [hw3]; exact (Below.refl _ _).alloc (Nat.le_refl _) _
  have bb : Below w.heap.size w w3 := b1.trans ((b2.mono (by omega)).trans (b3.mono (by omega)))
  have hp := h.below bb
  refine ⟨⟨hp.hm, hp.hb, hp.hv, ?_, ?_, ?_, hp.own, hp.arena, fun k hk => ⟨hp.rowA k hk, .inl (h.arena.own.row k hk).2⟩, fun k hk => ⟨(h.own.row k hk).1, .inl (h.own.row k hk).2⟩, hp.apart, o1, o2, by omega⟩, bb.mono (by omega)⟩
  · refine (b3.block _ (by omega)).trans ((b2.block _ (by omega)).trans ?_)
    rw [← hw1]; exact heap_alloc_new w _
  · refine (b3.block _ (by omega)).trans ?_
    rw [← hw2, ← s1]; exact heap_alloc_new w1 _
  · rw [hw3, ← s2]; exact heap_alloc_new w2 _
end Go.Proofs.Ytennhmaiecfgpaa
