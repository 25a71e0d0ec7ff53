/-
  What an arena is in memory, and what its functions do to it, each by a walk of its text: New, Len, Over, Room, and all of them on a nil arena. Conditions: those that each theorem names.
-/
import Derived.Test.YtennhmaiecfgpaaZeros
namespace Go.Proofs.Ytennhmaiecfgpaa
open Go.ChangeShapes Go.WideShapes Go.ChangeAt Go.RowKit

/-- Of what was there only block b and one row may have been written. -/
structure Moved (w w' : World) (b : Nat) (row : Option Nat) : Prop where
  os : w'.os = w.os
  tape : w'.tape = w.tape
  output : w'.output = w.output
  size : w.heap.size ≤ w'.heap.size
  block : ∀ k, k < w.heap.size → k ≠ b → some k ≠ row → w'.heap[k]? = w.heap[k]?
theorem Moved.refl (w : World) (b : Nat) (row : Option Nat) : Moved w w b row := ⟨rfl, rfl, rfl, Nat.le_refl _, fun _ _ _ _ => rfl⟩
/-- A row is the one that was, or a new one. -/
def Fresh (w : World) (A A' : Option Addr) : Prop := rowOf A' = rowOf A ∨ ∃ k, rowOf A' = some k ∧ w.heap.size ≤ k
theorem Fresh.refl (w : World) (A : Option Addr) : Fresh w A A := .inl rfl
theorem Moved.trans {a w w' : World} {b : Nat} {A A' : Option Addr} (h : Moved a w b (rowOf A)) (k : Moved w w' b (rowOf A')) (hf : Fresh a A A') : Moved a w' b (rowOf A) :=
  ⟨k.os.trans h.os, k.tape.trans h.tape, k.output.trans h.output, Nat.le_trans h.size k.size, fun i hi hb hr => by
    refine (k.block i (Nat.lt_of_lt_of_le hi h.size) hb ?_).trans (h.block i hi hb hr)
    rcases hf with e | ⟨k', e, hk⟩
    · rw [e]; exact hr
    · rw [e]; intro h; injection h with h; omega⟩
theorem Moved.grown {a w w' : World} {b : Nat} {row : Option Nat} (h : Moved a w b row) (k : w.grownBy w' row) : Moved a w' b row :=
  ⟨k.os.trans h.os, k.tape.trans h.tape, k.output.trans h.output, Nat.le_trans h.size k.size, fun i hi hb hr => (k.block i (Nat.lt_of_lt_of_le hi h.size) hr).trans (h.block i hi hb hr)⟩
theorem Moved.setCell {a w : World} {b : Nat} {row : Option Nat} (h : Moved a w b row) (j : Nat) (v : Value) : Moved a (w.setCell ⟨b, j, none⟩ v) b row :=
  ⟨h.os, h.tape, h.output, Nat.le_trans h.size (by simp [World.setCell]), fun i hi hb hr => (Below.heap_setCell _ _ _ _ hb).trans (h.block i hi hb hr)⟩
theorem Moved.below {w w' : World} {B b : Nat} {row : Option Nat} (h : Moved w w' b row) (hB : B ≤ w.heap.size) (hb : B ≤ b) (hr : ∀ k, row = some k → B ≤ k) : Below B w w' :=
  ⟨h.os, h.tape, h.output, h.size, fun k hk => h.block k (by omega) (by omega) (fun e => by have := hr k e.symm; omega)⟩

theorem OwnV.kept {w w' : World} {base : Nat} {e : TypeId} {A : Option Addr} {cap : Nat} {zs : List Int} (h : OwnV w base e A cap zs) (hr : ∀ k, rowOf A = some k → w'.heap[k]? = w.heap[k]?) : OwnV w' base e A cap zs := by
  obtain ⟨hl, h'⟩ := h
  refine ⟨hl, ?_⟩
  rcases h' with h1 | ⟨g, cap', cur, hv, h1, hg, h2⟩
  · exact .inl h1
  · cases hv
    exact .inr ⟨g, cap, cur, rfl, h1, (hr g rfl).trans hg, h2⟩
theorem OwnV.row {w : World} {base : Nat} {e : TypeId} {A : Option Addr} {cap : Nat} {zs : List Int} (h : OwnV w base e A cap zs) : ∀ k, rowOf A = some k → base ≤ k ∧ k < w.heap.size := fun k hk => h.lt k (by rw [ownBlock_rowOf]; exact hk)
theorem OwnV.nil_or {w : World} {base : Nat} {e : TypeId} {A : Option Addr} {cap : Nat} {zs : List Int} (h : OwnV w base e A cap zs) : (A = none ∧ cap = 0 ∧ zs = []) ∨ ∃ g, A = some ⟨g, 0, none⟩ ∧ OwnR w base e g zs.length cap zs := by
  have h0 := h
  obtain ⟨hl, h'⟩ := h
  rcases h' with ⟨hv, hn⟩ | ⟨g, cap', cur, hv, h1, hg, h2⟩
  · injection hv with h1 h2 h3
    exact .inl ⟨h1, h3, List.eq_nil_of_length_eq_zero hn⟩
  · injection hv with h1 h2 h3
    subst h1
    exact .inr ⟨g, rfl, h0⟩
theorem OwnR.toV {w : World} {base : Nat} {e : TypeId} {g n cap : Nat} {zs : List Int} (h : OwnR w base e g n cap zs) : OwnV w base e (some ⟨g, 0, none⟩) cap zs := by
  have := h.facts.1
  subst this
  exact h

/-- An arena in memory. -/
structure IsArena (w : World) (base b : Nat) (A : Option Addr) (cap : Nat) (zs : List Int) (most : Int) (over : Bool) : Prop where
  c0 : w.cell? ⟨b, 0, none⟩ = some (.slice A zs.length cap)
  c1 : w.cell? ⟨b, 1, none⟩ = some (.int .i64 most)
  c2 : w.cell? ⟨b, 2, none⟩ = some (.bool over)
  f0 : w.frozen? ⟨b, 0, none⟩ = false
  f1 : w.frozen? ⟨b, 1, none⟩ = false
  f2 : w.frozen? ⟨b, 2, none⟩ = false
  own : OwnV w base 5 A cap zs
  ne : rowOf A ≠ some b
  low : base ≤ b
  lt : b < w.heap.size
  fits : (zs.length : Int) ≤ most
  bound : most ≤ 2147483647
theorem IsArena.kept {w w' : World} {base b : Nat} {A : Option Addr} {cap : Nat} {zs : List Int} {most : Int} {over : Bool} (h : IsArena w base b A cap zs most over) (hs : w.heap.size ≤ w'.heap.size) (hb : w'.heap[b]? = w.heap[b]?) (hr : ∀ k, rowOf A = some k → w'.heap[k]? = w.heap[k]?) : IsArena w' base b A cap zs most over :=
  ⟨(World.cell?_of_block (w := w) hb).trans h.c0, (World.cell?_of_block (w := w) hb).trans h.c1, (World.cell?_of_block (w := w) hb).trans h.c2, (World.frozen?_of_block (w := w) hb).trans h.f0, (World.frozen?_of_block (w := w) hb).trans h.f1, (World.frozen?_of_block (w := w) hb).trans h.f2, h.own.kept hr, h.ne, h.low, Nat.lt_of_lt_of_le h.lt hs, h.fits, h.bound⟩
theorem IsArena.below {w w' : World} {base b : Nat} {A : Option Addr} {cap : Nat} {zs : List Int} {most : Int} {over : Bool} (h : IsArena w base b A cap zs most over) (hb : Below w.heap.size w w') : IsArena w' base b A cap zs most over :=
  h.kept hb.size (hb.block _ h.lt) (fun k hk => hb.block k (h.own.row k hk).2)
/-- What a step made of an arena. -/
def Stepped (w w' : World) (base b : Nat) (A : Option Addr) (zs' : List Int) (most : Int) (over' : Bool) : Prop :=
  ∃ A' cap', IsArena w' base b A' cap' zs' most over' ∧ Moved w w' b (rowOf A) ∧ Fresh w A A'

def atMost (most : Int) : Int := min (max most 0) 2147483647
theorem new_any (n : Int) (w : World) :
    Calls Try.prog 7 #[.int .i64 n] w fun e w' => e = .returned (.pointer (some ⟨w.heap.size, 0, none⟩)) ∧ w' = w.alloc (.cells #[.slice none 0 0, .int .i64 (atMost n), .bool false] 48) := by
  by_cases h0 : 0 ≤ n
  · by_cases h1 : n ≤ 2147483647
    · rw [show atMost n = n by unfold atMost; omega]
      go_enter Try.func7, Try.ntmps7
      go_wp2
      go_ret
      exact ⟨rfl, rfl⟩
    · rw [show atMost n = 2147483647 by unfold atMost; omega]
      go_enter Try.func7, Try.ntmps7
      go_wp2
      go_ret
      exact ⟨rfl, rfl⟩
  · rw [show atMost n = 0 by unfold atMost; omega]
    go_enter Try.func7, Try.ntmps7
    go_wp2
    go_ret
    exact ⟨rfl, rfl⟩
theorem new_arena (n : Int) (w : World) (base : Nat) (hb : base ≤ w.heap.size) : IsArena (w.alloc (.cells #[.slice none 0 0, .int .i64 (atMost n), .bool false] 48)) base w.heap.size none 0 [] (atMost n) false := by
  refine ⟨?_, ?_, ?_, ?_, ?_, ?_, World.ownsRow_nil _ base _ 1, by simp [rowOf], hb, by simp, by simp [atMost]; omega, by unfold atMost; omega⟩ <;> go_cell
theorem len_any {w : World} {base b : Nat} {A : Option Addr} {cap : Nat} {zs : List Int} {most : Int} {over : Bool} (h : IsArena w base b A cap zs most over) :
    Calls Try.prog 18 #[.pointer (some ⟨b, 0, none⟩)] w fun e w' => e = .returned (.int .i64 zs.length) ∧ w = w' := by
  have c0 := h.c0
  clear h
  go_enter Try.func18, Try.ntmps18
  go_wp2
  go_ret
  exact ⟨rfl, rfl⟩
theorem len_nil (w : World) :
    Calls Try.prog 18 #[.pointer none] w fun e w' => e = .returned (.int .i64 0) ∧ w = w' := by
  go_enter Try.func18, Try.ntmps18
  go_wp2
  go_ret
  exact ⟨rfl, rfl⟩
theorem over_any {w : World} {base b : Nat} {A : Option Addr} {cap : Nat} {zs : List Int} {most : Int} {over : Bool} (h : IsArena w base b A cap zs most over) :
    Calls Try.prog 17 #[.pointer (some ⟨b, 0, none⟩)] w fun e w' => e = .returned (.bool over) ∧ w = w' := by
  have c2 := h.c2
  clear h
  go_enter Try.func17, Try.ntmps17
  go_wp2
  go_ret
  exact ⟨rfl, rfl⟩
theorem over_nil (w : World) :
    Calls Try.prog 17 #[.pointer none] w fun e w' => e = .returned (.bool false) ∧ w = w' := by
  go_enter Try.func17, Try.ntmps17
  go_wp2
  go_ret
  exact ⟨rfl, rfl⟩
theorem room_nil (n : Int) (w : World) :
    Calls Try.prog 9 #[.pointer none, .int .i64 n] w fun e w' => e = .returned (.tuple #[.int .i64 0, .bool false]) ∧ w = w' := by
  go_enter Try.func9, Try.ntmps9
  go_wp2
  go_ret2
  exact ⟨rfl, rfl⟩
theorem put_nil (A : Option Addr) (len cap : Nat) (w : World) :
    Calls Try.prog 10 #[.pointer none, .slice A len cap] w fun e w' => e = .returned (.tuple #[.int .i64 0, .bool false]) ∧ w = w' := by
  go_enter Try.func10, Try.ntmps10
  go_wp2_with (go_at_call 9; refine (room_nil _ _).mono ?_; rintro e w' ⟨rfl, rfl⟩)
  go_ret2
  exact ⟨rfl, rfl⟩
theorem num_nil (s n : Int) (w : World) :
    Calls Try.prog 11 #[.pointer none, .int .i64 s, .int .u64 n] w fun e w' => e = .returned (.tuple #[.int .i64 0, .bool false]) ∧ w = w' := by
  by_cases hn : s = 1 ∨ s = 2 ∨ s = 4 ∨ s = 8
  · go_enter Try.func11, Try.ntmps11
    go_wp2_with (first | (go_at_call 21; refine (sized_yes _ _ hn).mono ?_; rintro e w' ⟨rfl, rfl⟩) | (go_at_call 9; refine (room_nil _ _).mono ?_; rintro e w' ⟨rfl, rfl⟩))
    go_ret2
    exact ⟨rfl, rfl⟩
  · go_enter Try.func11, Try.ntmps11
    go_wp2_with (go_at_call 21; refine (sized_no _ _ hn).mono ?_; rintro e w' ⟨rfl, rfl⟩)
    go_ret2
    exact ⟨rfl, rfl⟩
theorem align_nil (n : Int) (w : World) (hn : n ≤ 9223372036854775807) :
    Calls Try.prog 14 #[.pointer none, .int .i64 n] w fun e w' => e = .returned (.bool false) ∧ w = w' := by
  by_cases h : n < 1
  · go_enter Try.func14, Try.ntmps14
    go_wp2
    go_ret
    exact ⟨rfl, rfl⟩
  · have hz : n ≠ 0 := by omega
    have hm : (0 : Int).tmod n = 0 := Int.zero_tmod n
    go_enter Try.func14, Try.ntmps14
    go_wp2_with (first | (go_at_call 18; refine (len_nil _).mono ?_; rintro e w' ⟨rfl, rfl⟩) | (go_at_call 9; refine (room_nil _ _).mono ?_; rintro e w' ⟨rfl, rfl⟩))
    go_ret
    exact ⟨rfl, rfl⟩
theorem set_nil (a s n : Int) (w : World) :
    Calls Try.prog 15 #[.pointer none, .int .i64 a, .int .i64 s, .int .u64 n] w fun e w' => e = .returned (.bool false) ∧ w = w' := by
  go_enter Try.func15, Try.ntmps15
  go_wp2
  go_ret
  exact ⟨rfl, rfl⟩
theorem bytes_nil (w : World) :
    Calls Try.prog 19 #[.pointer none] w fun e w' => e = .returned (.tuple #[.slice none 0 0, .bool false]) ∧ w = w' := by
  go_enter Try.func19, Try.ntmps19
  go_wp2
  go_ret2
  exact ⟨rfl, rfl⟩
theorem stepped_over {w : World} {base b : Nat} {A : Option Addr} {cap : Nat} {zs : List Int} {most : Int} {over : Bool} (h : IsArena w base b A cap zs most over) : Stepped w (w.setCell ⟨b, 2, none⟩ (.bool true)) base b A zs most true := by
  refine ⟨A, cap, ⟨?_, ?_, ?_, ?_, ?_, ?_, ?_, h.ne, h.low, by simpa using h.lt, h.fits, h.bound⟩, (Moved.refl _ _ _).setCell _ _, Fresh.refl _ _⟩
  · simp [h.c0, go_sem]
  · simp [h.c1, go_sem]
  · exact World.cell?_setCell_same _ _ _ h.c2
  · simpa using h.f0
  · simpa using h.f1
  · simpa using h.f2
  · refine h.own.kept (fun k hk => Below.heap_setCell _ _ _ _ ?_)
    intro e
    exact h.ne (by rw [hk, e])
theorem stepped_grown {w w2 : World} {base b : Nat} {A A2 : Option Addr} {cap cap2 n : Nat} {zs : List Int} {most : Int} {over : Bool} (h : IsArena w base b A cap zs most over) (ho : OwnV w2 base 5 A2 cap2 (zs ++ zeros n)) (hg : w.grownBy w2 (rowOf A)) (hfr : rowOf A2 = rowOf A ∨ rowOf A2 = some w.heap.size)
    (hn : (n : Int) ≤ most - zs.length) : Stepped w (w2.setCell ⟨b, 0, none⟩ (.slice A2 (zs.length + n) cap2)) base b A (zs ++ zeros n) most over := by
  have hbk := hg.block _ h.lt (fun e => h.ne e.symm)
  have hc : ∀ j, w2.cell? ⟨b, j, none⟩ = w.cell? ⟨b, j, none⟩ := fun j => World.cell?_of_block (w := w) (a := ⟨b, j, none⟩) hbk
  have hz : ∀ j, w2.frozen? ⟨b, j, none⟩ = w.frozen? ⟨b, j, none⟩ := fun j => World.frozen?_of_block (w := w) (a := ⟨b, j, none⟩) hbk
  have hl : (zs ++ zeros n).length = zs.length + n := by simp [zeros]
  have hne : rowOf A2 ≠ some b := by
    rcases hfr with e | e
    · rw [e]; exact h.ne
    · rw [e]; intro h'; injection h' with h'; have := h.lt; omega
  have hfit := h.fits
  refine ⟨A2, cap2, ⟨?_, ?_, ?_, ?_, ?_, ?_, ?_, hne, h.low, ?_, ?_, h.bound⟩, ((Moved.refl _ _ _).grown hg).setCell _ _, ?_⟩
  · rw [hl]; exact World.cell?_setCell_same _ _ _ ((hc 0).trans h.c0)
  · simp [hc, h.c1, go_sem]
  · simp [hc, h.c2, go_sem]
  · simpa [hz] using h.f0
  · simpa [hz] using h.f1
  · simpa [hz] using h.f2
  · refine ho.kept (fun k hk => Below.heap_setCell _ _ _ _ ?_)
    intro e
    exact hne (by rw [hk, e])
  · have := h.lt; have := hg.size; simp [World.setCell]; omega
  · rw [hl]; omega
  · rcases hfr with e | e
    · exact .inl e
    · exact .inr ⟨_, e, Nat.le_refl _⟩
theorem Stepped.trans {w w1 w2 : World} {base b : Nat} {A A1 : Option Addr} {zs : List Int} {most : Int} {over : Bool} (h : Stepped w1 w2 base b A1 zs most over) (hm : Moved w w1 b (rowOf A)) (hf : Fresh w A A1) : Stepped w w2 base b A zs most over := by
  obtain ⟨A2, cap2, h1, h2, h3⟩ := h
  refine ⟨A2, cap2, h1, hm.trans h2 hf, ?_⟩
  rcases h3 with e | ⟨k, e, hk⟩
  · rcases hf with e' | ⟨k, e', hk⟩
    · exact .inl (e.trans e')
    · exact .inr ⟨k, e.trans e', hk⟩
  · exact .inr ⟨k, e, Nat.le_trans hm.size hk⟩
end Go.Proofs.Ytennhmaiecfgpaa
