/-
  The fixed facts of the third chapter's examples (the function Awake) come out true, and nothing that was there is written. Condition: the library's tables and its variable ErrRange hold what the row lists.
-/
import Derived.Test.YtfnopliggdemaaaDoorTokens
import Derived.Test.YtfnopliggdemaaaDoorLexNumber
namespace Go.Proofs.YtfnopliggdemaaaDoor
open Go.ChangeShapes Go.WideShapes Go.ChangeAt Go.RowKit Go.Shelf

theorem OwnT.cells {w : World} {base : Nat} {v : Value} {l : List Tok} (h : OwnT w base v l) (hne : l ≠ []) :
    ∃ g c, v = .slice (some ⟨g, 0, none⟩) l.length c ∧ l.length ≤ c ∧ base ≤ g ∧ g < w.heap.size ∧ ∀ k, k < l.length * 3 → w.cell? ⟨g, k, none⟩ = (toksCells l)[k]? := by
  obtain ⟨hl, h'⟩ := h
  rcases h' with ⟨_, h0⟩ | ⟨g, cap, cur, rfl, hb, hg, hn, hm, hs, ht⟩
  · exact absurd (List.eq_nil_of_length_eq_zero h0) hne
  · have hlt : g < w.heap.size := by
      rcases Nat.lt_or_ge g w.heap.size with h | h
      · exact h
      · rw [Array.getElem?_eq_none h] at hg; cases hg
    refine ⟨g, cap, rfl, hn, hb, hlt, fun k hk => ?_⟩
    rw [cell_of_row w g k cur _ (0, 0) hg, ← ht, List.getElem?_take, if_pos hk, Array.getElem?_toList]
theorem toks_ex1 : toks okU (amg ⟨#[123, 58]⟩) (bts ⟨#[97, 49, 32, 45, 53, 123, 34, 120, 34, 58, 110, 97, 109, 101]⟩) =
    ([⟨1, [97, 49], 0⟩, ⟨2, [45, 53], 3⟩, ⟨4, [123], 5⟩, ⟨3, [120], 6⟩, ⟨4, [58], 9⟩, ⟨1, [110, 97, 109, 101], 10⟩, ⟨0, [], 14⟩], 0, 0) := by kernel_rfl
theorem toks_ex2 : toks okU (amg ⟨#[]⟩) (bts ⟨#[48, 48, 55]⟩) = ([], 10, 0) := by kernel_rfl
theorem numV_ex1 : numR (numV (bts ⟨#[45, 49, 50, 56]⟩) 1 true) = .tuple #[.int .u64 18446744073709551488, .bool true] := by kernel_rfl
theorem numV_ex2 : numR (numV (bts ⟨#[50, 53, 54]⟩) 1 false) = .tuple #[.int .u64 0, .bool false] := by kernel_rfl
theorem tokens_ex1 (w : World) (hT : Tabs w) : Calls Tryd.prog 9 #[.string ⟨#[97, 49, 32, 45, 53, 123, 34, 120, 34, 58, 110, 97, 109, 101]⟩, .string ⟨#[123, 58]⟩] w fun e w' =>
    ∃ g c, 7 ≤ c ∧ e = .returned (.tuple #[.slice (some ⟨g, 0, none⟩) 7 c, .agg #[.int .i64 0, .int .i64 0]]) ∧ g < w'.heap.size ∧ w'.cell? ⟨g, 4, none⟩ = some (.string ⟨#[45, 53]⟩) ∧ w'.cell? ⟨g, 9, none⟩ = some (.int .i64 3) ∧ Below w.heap.size w w' := by
  have h := lexTokens_any ⟨#[97, 49, 32, 45, 53, 123, 34, 120, 34, 58, 110, 97, 109, 101]⟩ ⟨#[123, 58]⟩ w hT (by decide)
  rw [toks_ex1] at h
  refine h.mono fun e w' ⟨v, he, ho, hb⟩ => ?_
  obtain ⟨g, c, rfl, hc, _, hg, hk⟩ := ho.cells (by simp)
  exact ⟨g, c, hc, he, hg, (hk 4 (by decide)).trans rfl, (hk 9 (by decide)).trans rfl, hb⟩
theorem tokens_ex2 (w : World) (hT : Tabs w) : Calls Tryd.prog 9 #[.string ⟨#[48, 48, 55]⟩, .string ⟨#[]⟩] w fun e w' =>
    ∃ v, e = .returned (.tuple #[v, .agg #[.int .i64 10, .int .i64 0]]) ∧ Below w.heap.size w w' := by
  have h := lexTokens_any ⟨#[48, 48, 55]⟩ ⟨#[]⟩ w hT (by decide)
  rw [toks_ex2] at h
  exact h.mono fun e w' ⟨v, he, ho, hb⟩ => ⟨v, he, hb⟩
theorem number_ex1 (w : World) (hE : ErrV w) : Calls Tryd.prog 12 #[.string ⟨#[45, 49, 50, 56]⟩, .int .i64 1, .bool true] w fun e w' => e = .returned (.tuple #[.int .u64 18446744073709551488, .bool true]) ∧ Below w.heap.size w w' := by
  have h := lexNumber_any ⟨#[45, 49, 50, 56]⟩ 1 true w hE (by decide)
  rw [numV_ex1] at h
  exact h
theorem number_ex2 (w : World) (hE : ErrV w) : Calls Tryd.prog 12 #[.string ⟨#[50, 53, 54]⟩, .int .i64 1, .bool false] w fun e w' => e = .returned (.tuple #[.int .u64 0, .bool false]) ∧ Below w.heap.size w w' := by
  have h := lexNumber_any ⟨#[50, 53, 54]⟩ 1 false w hE (by decide)
  rw [numV_ex2] at h
  exact h
set_option maxHeartbeats 400000 in
theorem awake_any (w : World) (hT : Tabs w) (hE : ErrV w) : Calls Tryd.prog 8 #[] w fun e w' => e = .returned (.bool true) ∧ Below w.heap.size w w' := by
  have HT := Lib.hid hT
  have HE := Lib.hid hE
  clear hT hE
  go_enter Tryd.func8, Tryd.ntmps8
  go_wp2_with fail
  refine (tokens_ex1 w HT.out).mono ?_
  rintro e W1 ⟨g, c, hc, rfl, hg, hk1, hk2, hb1⟩
  have HB1 := Lib.hid hb1
  clear hb1
  go_wp2_with fail
  have hb1' : Below w.heap.size w (W1.alloc (.cells #[.int .i64 0, .int .i64 0] 27)) := HB1.out.alloc HB1.out.size _
  refine (tokens_ex2 _ (HT.out.below (Nat.le_refl _) hb1')).mono ?_
  rintro e W2 ⟨v2, rfl, hb2⟩
  have HB2 := Lib.hid (hb1'.trans (hb2.mono hb1'.size))
  have cf : W2.cell? ⟨W1.heap.size, 0, none⟩ = some (.int .i64 0) := (hb2.cell (p := ⟨W1.heap.size, 0, none⟩) (by simp)).trans (by rw [cell_of_row _ _ _ _ _ (0, 0) (heap_alloc_new W1 _)]; rfl)
  have c1 : W2.cell? ⟨g, 4, none⟩ = some (.string ⟨#[45, 53]⟩) := (hb2.cell (p := ⟨g, 4, none⟩) (by simp; omega)).trans ((World.cell?_alloc_lt _ _ _ hg).trans hk1)
  have c2 : W2.cell? ⟨g, 9, none⟩ = some (.int .i64 3) := (hb2.cell (p := ⟨g, 9, none⟩) (by simp; omega)).trans ((World.cell?_alloc_lt _ _ _ hg).trans hk2)
  have hs2 : W1.heap.size < W2.heap.size := by have := hb2.size; simp at this; omega
  clear hb1' hb2 hk1 hk2
  go_wp2_with fail
  have hb3' : Below w.heap.size w (W2.alloc (.cells #[.int .i64 10, .int .i64 0] 27)) := HB2.out.alloc HB2.out.size _
  refine (number_ex1 _ (HE.out.later hb3')).mono ?_
  rintro e W3 ⟨rfl, hb3⟩
  have HB3 := Lib.hid (hb3'.trans (hb3.mono hb3'.size))
  have cg : W3.cell? ⟨W2.heap.size, 0, none⟩ = some (.int .i64 10) := (hb3.cell (p := ⟨W2.heap.size, 0, none⟩) (by simp)).trans (by rw [cell_of_row _ _ _ _ _ (0, 0) (heap_alloc_new W2 _)]; rfl)
  have cf' : W3.cell? ⟨W1.heap.size, 0, none⟩ = some (.int .i64 0) := (hb3.cell (p := ⟨W1.heap.size, 0, none⟩) (by simp; omega)).trans ((World.cell?_alloc_lt _ _ _ hs2).trans cf)
  have c1' : W3.cell? ⟨g, 4, none⟩ = some (.string ⟨#[45, 53]⟩) := (hb3.cell (p := ⟨g, 4, none⟩) (by simp; omega)).trans ((World.cell?_alloc_lt _ _ _ (by show g < _; omega)).trans c1)
  have c2' : W3.cell? ⟨g, 9, none⟩ = some (.int .i64 3) := (hb3.cell (p := ⟨g, 9, none⟩) (by simp; omega)).trans ((World.cell?_alloc_lt _ _ _ (by show g < _; omega)).trans c2)
  have hs3 : W2.heap.size < W3.heap.size := by have := hb3.size; simp at this; omega
  clear hb3 hb3' cf c1 c2
  go_wp2_with fail
  refine (number_ex2 _ (HE.out.later HB3.out)).mono ?_
  rintro e W4 ⟨rfl, hb4⟩
  have HB4 := Lib.hid (HB3.out.trans (hb4.mono HB3.out.size))
  have dg : W4.cell? ⟨W2.heap.size, 0, none⟩ = some (.int .i64 10) := (hb4.cell (p := ⟨W2.heap.size, 0, none⟩) (by show W2.heap.size < _; omega)).trans cg
  have df : W4.cell? ⟨W1.heap.size, 0, none⟩ = some (.int .i64 0) := (hb4.cell (p := ⟨W1.heap.size, 0, none⟩) (by show W1.heap.size < _; omega)).trans cf'
  have d1 : W4.cell? ⟨g, 4, none⟩ = some (.string ⟨#[45, 53]⟩) := (hb4.cell (p := ⟨g, 4, none⟩) (by show g < _; omega)).trans c1'
  have d2 : W4.cell? ⟨g, 9, none⟩ = some (.int .i64 3) := (hb4.cell (p := ⟨g, 9, none⟩) (by show g < _; omega)).trans c2'
  clear hb4 cg cf' c1' c2'
  go_wp2
  go_ret
  exact ⟨rfl, HB4.out⟩
end Go.Proofs.YtfnopliggdemaaaDoor
