/-
  Structs in one another (the law ViewDeep), plain: which of them fit; how they lie in memory. Conditions: those that each theorem names.
-/
import Derived.Test.YtfghaopimeoijaaDoorVHide
import Derived.Test.YtfghaopimeoijaaDoorVAwake
namespace Go.Proofs.YtfghaopimeoijaaDoor
open Go.ChangeShapes Go.WideShapes Go.ChangeAt Go.RowKit Go.Shelf

/-- Structs in one another, by the number of them behind the first; each in a list, or as it is. -/
def deepV (lists : Bool) : Nat → PV
  | 0 => .mk 0 [] [nilV] true
  | k + 1 => if lists = true then .mk 0 [] [.mk 0 [] [deepV lists k] false] true else .mk 0 [] [deepV lists k] true
def deepF (l : Int) : List CFld := [⟨⟨#[120]⟩, 13, 0, l, 0⟩]
def deepB (lists : Bool) (l : Int) (n : Nat) : Bool := (deepV lists n).has && fitsP [⟨⟨#[83]⟩, deepF l⟩] [] 12 13 0 0 (deepV lists n)
theorem deep_lists : ∀ n, n < 14 → deepB true 1 n = decide (n + 1 ≤ 6) := by decide +kernel
theorem deep_plain : ∀ n, n < 14 → deepB false 0 n = decide (n + 1 ≤ 12) := by decide +kernel
theorem five_blk (w : World) (a b c d e : Array Value) (r s t u x : TypeId) : Below w.heap.size w (((((w.alloc (.cells a r)).alloc (.cells b s)).alloc (.cells c t)).alloc (.cells d u)).alloc (.cells e x)) ∧
    (((((w.alloc (.cells a r)).alloc (.cells b s)).alloc (.cells c t)).alloc (.cells d u)).alloc (.cells e x)).heap[w.heap.size]? = some (.cells a r (0, 0)) ∧
    (((((w.alloc (.cells a r)).alloc (.cells b s)).alloc (.cells c t)).alloc (.cells d u)).alloc (.cells e x)).heap[w.heap.size + 1]? = some (.cells b s (0, 0)) ∧
    (((((w.alloc (.cells a r)).alloc (.cells b s)).alloc (.cells c t)).alloc (.cells d u)).alloc (.cells e x)).heap[w.heap.size + 1 + 1]? = some (.cells c t (0, 0)) ∧
    (((((w.alloc (.cells a r)).alloc (.cells b s)).alloc (.cells c t)).alloc (.cells d u)).alloc (.cells e x)).heap[w.heap.size + 1 + 1 + 1]? = some (.cells d u (0, 0)) ∧
    (((((w.alloc (.cells a r)).alloc (.cells b s)).alloc (.cells c t)).alloc (.cells d u)).alloc (.cells e x)).heap[w.heap.size + 1 + 1 + 1 + 1]? = some (.cells e x (0, 0)) ∧
    w.heap.size + 1 + 1 + 1 + 1 + 1 = (((((w.alloc (.cells a r)).alloc (.cells b s)).alloc (.cells c t)).alloc (.cells d u)).alloc (.cells e x)).heap.size := by
  obtain ⟨h0, h1, h2, h3, h4⟩ := four_blk w a b c d r s t u
  have hs : ((((w.alloc (.cells a r)).alloc (.cells b s)).alloc (.cells c t)).alloc (.cells d u)).heap.size = w.heap.size + 1 + 1 + 1 + 1 := by simp
  have h5 := heap_alloc_new ((((w.alloc (.cells a r)).alloc (.cells b s)).alloc (.cells c t)).alloc (.cells d u)) (.cells e x)
  rw [hs] at h5
  exact ⟨h0.alloc h0.size _, blk_alloc h1 _, blk_alloc h2 _, blk_alloc h3 _, blk_alloc h4 _, h5, by simp⟩
theorem exc_set4 (w : World) (g : Nat) (x y z u : Value) : Exc g w.heap.size w ((((w.setCell ⟨g, 0, none⟩ x).setCell ⟨g, 1, none⟩ y).setCell ⟨g, 2, none⟩ z).setCell ⟨g, 3, none⟩ u) :=
  (((((Exc.refl g _ w).setCell (p := ⟨g, 0, none⟩) (.inl rfl) x).setCell (p := ⟨g, 1, none⟩) (.inl rfl) y).setCell (p := ⟨g, 2, none⟩) (.inl rfl) z).setCell (p := ⟨g, 3, none⟩) (.inl rfl) u)
theorem deep_ok {v : Value} {l : Int} (h : 0 ≤ l ∧ l ≤ 1) : FldsOk [(⟨⟨#[83]⟩, deepF l⟩, v)] := fun q hq f hf => by
  rw [List.mem_singleton] at hq
  subst hq
  have h : f = ⟨⟨#[120]⟩, 13, 0, l, 0⟩ := by simpa [deepF] using hf
  subst h
  obtain rfl | rfl : l = 0 ∨ l = 1 := by omega
  all_goals decide
theorem deep_rows {W : World} {K : Nat} {l : Int} (h1 : W.heap[K]? = some (.cells (cfldsCells (deepF l)).toArray 57 (0, 0))) (h2 : W.heap[K + 1]? = some (.cells #[.string ⟨#[83]⟩, .slice (some ⟨K, 0, none⟩) 1 1] 51 (0, 0))) :
    CRows K W [(⟨⟨#[83]⟩, deepF l⟩, .slice (some ⟨K, 0, none⟩) 1 1)] [] (.slice (some ⟨K + 1, 0, none⟩) 1 1) (.slice none 0 0) where
  structs := own_blk (base := K) (n := 1) (size := 2) h2 (Nat.le_succ _) (by decide) rfl
  enums := World.ownsRow_nil _ _ _ _
  fields := fun q hq => by rw [List.mem_singleton] at hq; subst hq; exact own_blk (base := K) (n := 1) (size := 5) h1 (Nat.le_refl _) (by decide) rfl
  names := fun q hq => by cases hq
/-- The law's loop: so many structs are in one another; the variable's block is no part of what it holds. -/
def VDAt (m V : Nat) (W4 : World) (lists : Bool) (x : Value) (W : World) : Prop := ∃ j M : Nat, j ≤ m ∧ x = .int .i64 j ∧ W.heap[V]? = some (.cells #[.int .u64 0, .slice none 0 0, .slice (some ⟨M, 0, none⟩) 1 1, .bool true] 36 (0, 0)) ∧
  VH (fun k => k == V) W (deepV lists j) (.agg #[.int .u64 0, .slice none 0 0, .slice (some ⟨M, 0, none⟩) 1 1, .bool true]) ∧ Exc V W4.heap.size W4 W
theorem vd_start (m : Nat) {V M : Nat} {W : World} {lists : Bool} (hV : W.heap[V]? = some (.cells #[.int .u64 0, .slice none 0 0, .slice (some ⟨M, 0, none⟩) 1 1, .bool true] 36 (0, 0))) (hM : W.heap[M]? = some (.cells #[.int .u64 0, .slice none 0 0, .slice none 0 0, .bool false] 36 (0, 0))) (hne : M ≠ V) : VDAt m V W lists (.int .i64 ((0 : Nat) : Int)) W :=
  ⟨0, M, Nat.zero_le _, rfl, hV, vh_box (vh_nil _ W) hM (by simp [hne]) true, Exc.refl _ _ _⟩
def set4 (w : World) (g : Nat) (x y z u : Value) : World := (((w.setCell ⟨g, 0, none⟩ x).setCell ⟨g, 1, none⟩ y).setCell ⟨g, 2, none⟩ z).setCell ⟨g, 3, none⟩ u
theorem set4_size (w : World) (g : Nat) (x y z u : Value) : (set4 w g x y z u).heap.size = w.heap.size := by simp [set4, World.setCell]
theorem vd_next {m V j M : Nat} {W4 wr : World} (hj : j + 1 ≤ m) (h4 : W4.heap.size ≤ wr.heap.size) (hV : wr.heap[V]? = some (.cells #[.int .u64 0, .slice none 0 0, .slice (some ⟨M, 0, none⟩) 1 1, .bool true] 36 (0, 0)))
    (hvh : VH (fun k => k == V) wr (deepV false j) (.agg #[.int .u64 0, .slice none 0 0, .slice (some ⟨M, 0, none⟩) 1 1, .bool true])) (hb : Exc V W4.heap.size W4 wr) :
    VDAt m V W4 false (.int .i64 ((j + 1 : Nat) : Int)) ((set4 wr V (.int .u64 0) (.slice none 0 0) (.slice (some ⟨wr.heap.size, 0, none⟩) 1 1) (.bool true)).alloc (.cells #[.int .u64 0, .slice none 0 0, .slice (some ⟨M, 0, none⟩) 1 1, .bool true] 36)) := by
  have hlt := blk_lt hV
  have hs := exc_set4 wr V (.int .u64 0) (.slice none 0 0) (.slice (some ⟨wr.heap.size, 0, none⟩) 1 1) (.bool true)
  have hn := heap_alloc_new (set4 wr V (.int .u64 0) (.slice none 0 0) (.slice (some ⟨wr.heap.size, 0, none⟩) 1 1) (.bool true)) (.cells #[.int .u64 0, .slice none 0 0, .slice (some ⟨M, 0, none⟩) 1 1, .bool true] 36)
  rw [set4_size] at hn
  refine ⟨j + 1, wr.heap.size, hj, rfl, blk_alloc (blk_set4 hV _ _ _ _) _, ?_, (hb.thenB (Nat.le_refl _) hs).alloc (Nat.le_trans h4 hs.size) _⟩
  exact vh_box (S := fun k => k == V) ((hvh.exc hs (by simp)).alloc _) hn (by simp; omega) true
theorem vd_nextL {m V j M : Nat} {W4 wr : World} (hj : j + 1 ≤ m) (h4 : W4.heap.size ≤ wr.heap.size) (hV : wr.heap[V]? = some (.cells #[.int .u64 0, .slice none 0 0, .slice (some ⟨M, 0, none⟩) 1 1, .bool true] 36 (0, 0)))
    (hvh : VH (fun k => k == V) wr (deepV true j) (.agg #[.int .u64 0, .slice none 0 0, .slice (some ⟨M, 0, none⟩) 1 1, .bool true])) (hb : Exc V W4.heap.size W4 wr) :
    VDAt m V W4 true (.int .i64 ((j + 1 : Nat) : Int)) (((set4 wr V (.int .u64 0) (.slice none 0 0) (.slice (some ⟨wr.heap.size + 1, 0, none⟩) 1 1) (.bool true)).alloc (.cells #[.int .u64 0, .slice none 0 0, .slice (some ⟨M, 0, none⟩) 1 1, .bool true] 36)).alloc (.cells #[.int .u64 0, .slice none 0 0, .slice (some ⟨wr.heap.size, 0, none⟩) 1 1, .bool false] 36)) := by
  have hlt := blk_lt hV
  have hs := exc_set4 wr V (.int .u64 0) (.slice none 0 0) (.slice (some ⟨wr.heap.size + 1, 0, none⟩) 1 1) (.bool true)
  have hn := heap_alloc_new (set4 wr V (.int .u64 0) (.slice none 0 0) (.slice (some ⟨wr.heap.size + 1, 0, none⟩) 1 1) (.bool true)) (.cells #[.int .u64 0, .slice none 0 0, .slice (some ⟨M, 0, none⟩) 1 1, .bool true] 36)
  have hn2 := heap_alloc_new ((set4 wr V (.int .u64 0) (.slice none 0 0) (.slice (some ⟨wr.heap.size + 1, 0, none⟩) 1 1) (.bool true)).alloc (.cells #[.int .u64 0, .slice none 0 0, .slice (some ⟨M, 0, none⟩) 1 1, .bool true] 36)) (.cells #[.int .u64 0, .slice none 0 0, .slice (some ⟨wr.heap.size, 0, none⟩) 1 1, .bool false] 36)
  rw [set4_size] at hn
  rw [World.size_alloc, set4_size] at hn2
  have hz := Nat.le_trans h4 hs.size
  refine ⟨j + 1, wr.heap.size + 1, hj, rfl, blk_alloc (blk_alloc (blk_set4 hV _ _ _ _) _) _, ?_, ((hb.thenB (Nat.le_refl _) hs).alloc hz _).alloc (by rw [World.size_alloc]; exact Nat.le_succ_of_le hz) _⟩
  exact vh_box (S := fun k => k == V) ((vh_box (S := fun k => k == V) ((hvh.exc hs (by simp)).alloc _) hn (by simp; omega) false).alloc _) hn2 (by simp; omega) true
end Go.Proofs.YtfghaopimeoijaaDoor
