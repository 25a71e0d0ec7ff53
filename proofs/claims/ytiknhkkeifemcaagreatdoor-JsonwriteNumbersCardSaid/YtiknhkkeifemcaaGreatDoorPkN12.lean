/-
  A writer's steps leave all but its meter as it was. Conditions: those that each theorem names.
-/
import Derived.Test.YtiknhkkeifemcaaGreatDoorPkN1
import Derived.Test.YtiknhkkeifemcaaGreatDoorPkN4
import Derived.Test.YtiknhkkeifemcaaGreatDoorPkN5
import Derived.Test.YtiknhkkeifemcaaGreatDoorRows
import Derived.WalkKit
import Derived.ProofKit
import Derived.OpenShut
import Derived.ShutString
import Derived.ChangeOld
import Derived.Below
import Derived.WalkLawsBesides
import Derived.WalkSpells
import Derived.Lib.Hide
import Derived.Outline
import Derived.Handy
namespace Go.Proofs.YtiknhkkeifemcaaGreatDoor
open Go.ChangeShapes Go.WideShapes Go.ChangeAt Go.RowKit

structure Moved (w w' : World) (b : Nat) (row : Option Nat) : Prop where
  os : w'.os = w.os
  tape : w'.tape = w.tape
  output : w'.output = w.output
  size : w.heap.size ≤ w'.heap.size
  block : ∀ k, k < w.heap.size → k ≠ b → some k ≠ row → w'.heap[k]? = w.heap[k]?
theorem Moved.refl (w : World) (b : Nat) (row : Option Nat) : Moved w w b row := ⟨rfl, rfl, rfl, Nat.le_refl _, fun _ _ _ _ => rfl⟩
def Fresh (w : World) (A A' : Option Addr) : Prop := rowOf A' = rowOf A ∨ ∃ k, rowOf A' = some k ∧ w.heap.size ≤ k
theorem Fresh.refl (w : World) (A : Option Addr) : Fresh w A A := .inl rfl
theorem Moved.trans {a w w' : World} {b : Nat} {A A' : Option Addr} (h : Moved a w b (rowOf A)) (k : Moved w w' b (rowOf A')) (hf : Fresh a A A') : Moved a w' b (rowOf A) :=
  ⟨k.os.trans h.os, k.tape.trans h.tape, k.output.trans h.output, Nat.le_trans h.size k.size, fun i hi hb hr => by
    refine (k.block i (Nat.lt_of_lt_of_le hi h.size) hb ?_).trans (h.block i hi hb hr)
    rcases hf with e | ⟨k', e, hk⟩
    · rw [e]; exact hr
    · rw [e]; intro h; injection h with h; omega⟩
theorem Moved.grown {a w w' : World} {b : Nat} {row : Option Nat} (h : Moved a w b row) (k : w.grownBy w' row) : Moved a w' b row :=
  ⟨k.os.trans h.os, k.tape.trans h.tape, k.output.trans h.output, Nat.le_trans h.size k.size, fun i hi hb hr => (k.block i (Nat.lt_of_lt_of_le hi h.size) hr).trans (h.block i hi hb hr)⟩
theorem Moved.setCell {a w : World} {b : Nat} {row : Option Nat} (h : Moved a w b row) (j : Nat) (v : Value) : Moved a (w.setCell ⟨b, j, none⟩ v) b row :=
  ⟨h.os, h.tape, h.output, Nat.le_trans h.size (by simp [World.setCell]), fun i hi hb hr => (Below.heap_setCell _ _ _ _ hb).trans (h.block i hi hb hr)⟩
theorem Moved.below {w w' : World} {B b : Nat} {row : Option Nat} (h : Moved w w' b row) (hB : B ≤ w.heap.size) (hb : B ≤ b) (hr : ∀ k, row = some k → B ≤ k) : Below B w w' :=
  ⟨h.os, h.tape, h.output, h.size, fun k hk => h.block k (by omega) (by omega) (fun e => by have := hr k e.symm; omega)⟩

theorem OwnV.kept {w w' : World} {base : Nat} {e : TypeId} {A : Option Addr} {cap : Nat} {zs : List Int} (h : OwnV w base e A cap zs) (hr : ∀ k, rowOf A = some k → w'.heap[k]? = w.heap[k]?) : OwnV w' base e A cap zs := by
  obtain ⟨hl, h'⟩ := h
  refine ⟨hl, ?_⟩
  rcases h' with h1 | ⟨g, cap', cur, hv, h1, hg, h2⟩
  · exact .inl h1
  · cases hv
    exact .inr ⟨g, cap, cur, rfl, h1, (hr g rfl).trans hg, h2⟩
theorem OwnV.row {w : World} {base : Nat} {e : TypeId} {A : Option Addr} {cap : Nat} {zs : List Int} (h : OwnV w base e A cap zs) : ∀ k, rowOf A = some k → base ≤ k ∧ k < w.heap.size := fun k hk => h.lt k (by rw [ownBlock_rowOf]; exact hk)
theorem OwnV.nil_or {w : World} {base : Nat} {e : TypeId} {A : Option Addr} {cap : Nat} {zs : List Int} (h : OwnV w base e A cap zs) : (A = none ∧ cap = 0 ∧ zs = []) ∨ ∃ g, A = some ⟨g, 0, none⟩ ∧ OwnR w base e g zs.length cap zs := by
  have h0 := h
  obtain ⟨hl, h'⟩ := h
  rcases h' with ⟨hv, hn⟩ | ⟨g, cap', cur, hv, h1, hg, h2⟩
  · injection hv with h1 h2 h3
    exact .inl ⟨h1, h3, List.eq_nil_of_length_eq_zero hn⟩
  · injection hv with h1 h2 h3
    subst h1
    exact .inr ⟨g, rfl, h0⟩
theorem OwnR.toV {w : World} {base : Nat} {e : TypeId} {g n cap : Nat} {zs : List Int} (h : OwnR w base e g n cap zs) : OwnV w base e (some ⟨g, 0, none⟩) cap zs := by
  have := h.facts.1
  subst this
  exact h

structure IsArena (w : World) (base b : Nat) (A : Option Addr) (cap : Nat) (zs : List Int) (most : Int) (over : Bool) : Prop where
  c0 : w.cell? ⟨b, 0, none⟩ = some (.slice A zs.length cap)
  c1 : w.cell? ⟨b, 1, none⟩ = some (.int .i64 most)
  c2 : w.cell? ⟨b, 2, none⟩ = some (.bool over)
  f0 : w.frozen? ⟨b, 0, none⟩ = false
  f1 : w.frozen? ⟨b, 1, none⟩ = false
  f2 : w.frozen? ⟨b, 2, none⟩ = false
  own : OwnV w base 5 A cap zs
  ne : rowOf A ≠ some b
  low : base ≤ b
  lt : b < w.heap.size
  fits : (zs.length : Int) ≤ most
  bound : most ≤ 2147483647
theorem IsArena.kept {w w' : World} {base b : Nat} {A : Option Addr} {cap : Nat} {zs : List Int} {most : Int} {over : Bool} (h : IsArena w base b A cap zs most over) (hs : w.heap.size ≤ w'.heap.size) (hb : w'.heap[b]? = w.heap[b]?) (hr : ∀ k, rowOf A = some k → w'.heap[k]? = w.heap[k]?) : IsArena w' base b A cap zs most over :=
  ⟨(World.cell?_of_block (w := w) hb).trans h.c0, (World.cell?_of_block (w := w) hb).trans h.c1, (World.cell?_of_block (w := w) hb).trans h.c2, (World.frozen?_of_block (w := w) hb).trans h.f0, (World.frozen?_of_block (w := w) hb).trans h.f1, (World.frozen?_of_block (w := w) hb).trans h.f2, h.own.kept hr, h.ne, h.low, Nat.lt_of_lt_of_le h.lt hs, h.fits, h.bound⟩
theorem IsArena.below {w w' : World} {base b : Nat} {A : Option Addr} {cap : Nat} {zs : List Int} {most : Int} {over : Bool} (h : IsArena w base b A cap zs most over) (hb : Below w.heap.size w w') : IsArena w' base b A cap zs most over :=
  h.kept hb.size (hb.block _ h.lt) (fun k hk => hb.block k (h.own.row k hk).2)
def Stepped (w w' : World) (base b : Nat) (A : Option Addr) (zs' : List Int) (most : Int) (over' : Bool) : Prop :=
  ∃ A' cap', IsArena w' base b A' cap' zs' most over' ∧ Moved w w' b (rowOf A) ∧ Fresh w A A'

def atMost (most : Int) : Int := min (max most 0) 2147483647
theorem anew_any (n : Int) (w : World) :
    Calls Tryz.prog 55 #[.int .i64 n] w fun e w' => e = .returned (.pointer (some ⟨w.heap.size, 0, none⟩)) ∧ w' = w.alloc (.cells #[.slice none 0 0, .int .i64 (atMost n), .bool false] 191) := by
  by_cases h0 : 0 ≤ n
  · by_cases h1 : n ≤ 2147483647
    · rw [show atMost n = n by unfold atMost; omega]
      go_enter Tryz.func55, Tryz.ntmps55
      go_wp2
      go_ret
      exact ⟨rfl, by first | rfl | rw [show min (max n 0) 2147483647 = n by omega]⟩
    · rw [show atMost n = 2147483647 by unfold atMost; omega]
      go_enter Tryz.func55, Tryz.ntmps55
      go_wp2
      go_ret
      exact ⟨rfl, by first | rfl | rw [show min (max n 0) 2147483647 = 2147483647 by omega]⟩
  · rw [show atMost n = 0 by unfold atMost; omega]
    go_enter Tryz.func55, Tryz.ntmps55
    go_wp2
    go_ret
    exact ⟨rfl, by first | rfl | rw [show min (max n 0) 2147483647 = 0 by omega]⟩
theorem new_arena (n : Int) (w : World) (base : Nat) (hb : base ≤ w.heap.size) : IsArena (w.alloc (.cells #[.slice none 0 0, .int .i64 (atMost n), .bool false] 191)) base w.heap.size none 0 [] (atMost n) false := by
  refine ⟨?_, ?_, ?_, ?_, ?_, ?_, World.ownsRow_nil _ base _ 1, by simp [rowOf], hb, by simp, by simp [atMost]; omega, by unfold atMost; omega⟩ <;> go_cell
theorem over_any {w : World} {base b : Nat} {A : Option Addr} {cap : Nat} {zs : List Int} {most : Int} {over : Bool} (h : IsArena w base b A cap zs most over) :
    Calls Tryz.prog 67 #[.pointer (some ⟨b, 0, none⟩)] w fun e w' => e = .returned (.bool over) ∧ w = w' := by
  have c2 := h.c2
  clear h
  go_enter Tryz.func67, Tryz.ntmps67
  go_wp2
  go_ret
  exact ⟨rfl, rfl⟩
theorem stepped_over {w : World} {base b : Nat} {A : Option Addr} {cap : Nat} {zs : List Int} {most : Int} {over : Bool} (h : IsArena w base b A cap zs most over) : Stepped w (w.setCell ⟨b, 2, none⟩ (.bool true)) base b A zs most true := by
  refine ⟨A, cap, ⟨?_, ?_, ?_, ?_, ?_, ?_, ?_, h.ne, h.low, by simpa using h.lt, h.fits, h.bound⟩, (Moved.refl _ _ _).setCell _ _, Fresh.refl _ _⟩
  · simp [h.c0, go_sem]
  · simp [h.c1, go_sem]
  · exact World.cell?_setCell_same _ _ _ h.c2
  · simpa using h.f0
  · simpa using h.f1
  · simpa using h.f2
  · refine h.own.kept (fun k hk => Below.heap_setCell _ _ _ _ ?_)
    intro e
    exact h.ne (by rw [hk, e])
theorem stepped_grown {w w2 : World} {base b : Nat} {A A2 : Option Addr} {cap cap2 n : Nat} {zs : List Int} {most : Int} {over : Bool} (h : IsArena w base b A cap zs most over) (ho : OwnV w2 base 5 A2 cap2 (zs ++ zeros n)) (hg : w.grownBy w2 (rowOf A)) (hfr : rowOf A2 = rowOf A ∨ rowOf A2 = some w.heap.size)
    (hn : (n : Int) ≤ most - zs.length) : Stepped w (w2.setCell ⟨b, 0, none⟩ (.slice A2 (zs.length + n) cap2)) base b A (zs ++ zeros n) most over := by
  have hbk := hg.block _ h.lt (fun e => h.ne e.symm)
  have hc : ∀ j, w2.cell? ⟨b, j, none⟩ = w.cell? ⟨b, j, none⟩ := fun j => World.cell?_of_block (w := w) (a := ⟨b, j, none⟩) hbk
  have hz : ∀ j, w2.frozen? ⟨b, j, none⟩ = w.frozen? ⟨b, j, none⟩ := fun j => World.frozen?_of_block (w := w) (a := ⟨b, j, none⟩) hbk
  have hl : (zs ++ zeros n).length = zs.length + n := by simp [zeros]
  have hne : rowOf A2 ≠ some b := by
    rcases hfr with e | e
    · rw [e]; exact h.ne
    · rw [e]; intro h'; injection h' with h'; have := h.lt; omega
  have hfit := h.fits
  refine ⟨A2, cap2, ⟨?_, ?_, ?_, ?_, ?_, ?_, ?_, hne, h.low, ?_, ?_, h.bound⟩, ((Moved.refl _ _ _).grown hg).setCell _ _, ?_⟩
  · rw [hl]; exact World.cell?_setCell_same _ _ _ ((hc 0).trans h.c0)
  · simp [hc, h.c1, go_sem]
  · simp [hc, h.c2, go_sem]
  · simpa [hz] using h.f0
  · simpa [hz] using h.f1
  · simpa [hz] using h.f2
  · refine ho.kept (fun k hk => Below.heap_setCell _ _ _ _ ?_)
    intro e
    exact hne (by rw [hk, e])
  · have := h.lt; have := hg.size; simp [World.setCell]; omega
  · rw [hl]; omega
  · rcases hfr with e | e
    · exact .inl e
    · exact .inr ⟨_, e, Nat.le_refl _⟩
theorem Stepped.trans {w w1 w2 : World} {base b : Nat} {A A1 : Option Addr} {zs : List Int} {most : Int} {over : Bool} (h : Stepped w1 w2 base b A1 zs most over) (hm : Moved w w1 b (rowOf A)) (hf : Fresh w A A1) : Stepped w w2 base b A zs most over := by
  obtain ⟨A2, cap2, h1, h2, h3⟩ := h
  refine ⟨A2, cap2, h1, hm.trans h2 hf, ?_⟩
  rcases h3 with e | ⟨k, e, hk⟩
  · rcases hf with e' | ⟨k, e', hk⟩
    · exact .inl (e.trans e')
    · exact .inr ⟨k, e.trans e', hk⟩
  · exact .inr ⟨k, e, Nat.le_trans hm.size hk⟩
end Go.Proofs.YtiknhkkeifemcaaGreatDoor
namespace Go.Proofs.YtiknhkkeifemcaaGreatDoor
open Go.ChangeShapes Go.WideShapes Go.ChangeAt Go.RowKit

theorem room_yes {w : World} {base b : Nat} {A : Option Addr} {cap : Nat} {zs : List Int} {most n : Int} (h : IsArena w base b A cap zs most false) (h0 : 0 ≤ n) (h1 : n ≤ most - zs.length) (hbase : base ≤ w.heap.size) :
    Calls Tryz.prog 129 #[.pointer (some ⟨b, 0, none⟩), .int .i64 n] w fun e w' => e = .returned (.tuple #[.int .i64 zs.length, .bool true]) ∧ Stepped w w' base b A (zs ++ zeros n.toNat) most false := by
  obtain ⟨n, rfl⟩ := Int.eq_ofNat_of_zero_le h0
  rw [Int.toNat_natCast]
  have H := Lib.hid h
  obtain ⟨i0, hi0, hz0, hz1, hz2⟩ := info_parts u8_info
  have I1 := Lib.hid hi0
  have I2 := Lib.hid hz0
  have I3 := Lib.hid hz1
  have I4 := Lib.hid hz2
  have c0 := h.c0
  have c1 := h.c1
  have c2 := h.c2
  have hf := h.fits
  have hbd := h.bound
  clear hi0 hz0 hz1 hz2 h
  go_enter Tryz.func129, Tryz.ntmps129
  go_wp2_with (first | (go_at_call 160; refine (next_yes _ _ _ _ (by omega) (by omega) (by omega) (by omega) (by omega)).mono ?_; rintro e w' ⟨rfl, rfl⟩) | (at_builtin; refine wpList_app_zeros _ rfl (.tmp 41) (.tmp 42) 22 3 rfl base 5 i0 Tryz.underlying22 Tryz.underlying3 I1.out I2.out I3.out I4.out A cap zs zs.length n rfl rfl H.out.own rfl (by omega) hbase ?_; intro A2 cap2 w2 hown2 hg2 hfr2; have hbk := hg2.block _ H.out.lt (fun e => H.out.ne e.symm); have d0 := (World.cell?_of_block (w := w) (a := ⟨b, 0, none⟩) hbk).trans H.out.c0; have e0 := (World.frozen?_of_block (w := w) (a := ⟨b, 0, none⟩) hbk).trans H.out.f0; have HO := Lib.hid hown2; have HG := Lib.hid hg2; have HF := Lib.hid hfr2; have HK := Lib.hid hbk; clear hown2 hg2 hfr2 hbk))
  go_ret2
  exact ⟨rfl, stepped_grown H.out HO.out HG.out HF.out h1⟩
theorem room_no {w : World} {base b : Nat} {A : Option Addr} {cap : Nat} {zs : List Int} {most n : Int} {over : Bool} (h : IsArena w base b A cap zs most over) (hn : over = true ∨ n < 0 ∨ most - zs.length < n) :
    Calls Tryz.prog 129 #[.pointer (some ⟨b, 0, none⟩), .int .i64 n] w fun e w' => e = .returned (.tuple #[.int .i64 0, .bool false]) ∧ Stepped w w' base b A zs most true := by
  have H := Lib.hid h
  have c0 := h.c0
  have c1 := h.c1
  have c2 := h.c2
  have g2 := h.f2
  have hf := h.fits
  have hbd := h.bound
  clear h
  cases over with
  | true =>
    clear hn
    go_enter Tryz.func129, Tryz.ntmps129
    go_wp2
    go_ret2
    exact ⟨rfl, A, cap, H.out, Moved.refl _ _ _, Fresh.refl _ _⟩
  | false =>
    have hn' : (zs.length : Int) < 0 ∨ n < 0 ∨ most < zs.length ∨ most - zs.length < n := by
      rcases hn with h | h | h
      · cases h
      · omega
      · omega
    clear hn
    go_enter Tryz.func129, Tryz.ntmps129
    go_wp2_with (go_at_call 160; refine (next_no _ _ _ _ hn' (by omega)).mono ?_; rintro e w' ⟨rfl, rfl⟩)
    go_ret2
    exact ⟨rfl, stepped_over H.out⟩
theorem stepped_store {w w' : World} {base b g : Nat} {cap : Nat} {zs zs' : List Int} {most : Int} {over : Bool} (h : IsArena w base b (some ⟨g, 0, none⟩) cap zs most over) (ho : OwnR w' base 5 g zs.length cap zs') (hg : w.grownBy w' (some g)) : Stepped w w' base b (some ⟨g, 0, none⟩) zs' most over := by
  have hl := ho.facts.1
  have hbk := hg.block _ h.lt (fun e => h.ne e.symm)
  have hc : ∀ j, w'.cell? ⟨b, j, none⟩ = w.cell? ⟨b, j, none⟩ := fun j => World.cell?_of_block (w := w) (a := ⟨b, j, none⟩) hbk
  have hz : ∀ j, w'.frozen? ⟨b, j, none⟩ = w.frozen? ⟨b, j, none⟩ := fun j => World.frozen?_of_block (w := w) (a := ⟨b, j, none⟩) hbk
  exact ⟨_, cap, ⟨by rw [hl, hc]; exact h.c0, by rw [hc]; exact h.c1, by rw [hc]; exact h.c2, by rw [hz]; exact h.f0, by rw [hz]; exact h.f1, by rw [hz]; exact h.f2, ho.toV, h.ne, h.low, Nat.lt_of_lt_of_le h.lt hg.size, by rw [hl]; exact h.fits, h.bound⟩, (Moved.refl _ _ _).grown hg, Fresh.refl _ _⟩
end Go.Proofs.YtiknhkkeifemcaaGreatDoor
namespace Go.Proofs.YtiknhkkeifemcaaGreatDoor
open Go.ChangeShapes Go.WideShapes Go.ChangeAt Go.RowKit

theorem splice_end (zs news : List Int) : splice (zs ++ zeros news.length) zs.length news = zs ++ news := by
  unfold splice
  have h1 : (zs ++ zeros news.length).take zs.length = zs := List.take_left
  have h2 : (zs ++ zeros news.length).drop (zs.length + news.length) = [] := List.drop_eq_nil_of_le (by simp [zeros])
  rw [h1, h2, List.append_nil]
theorem grown_setRow (w : World) (g : Nat) (cs : Array Value) : w.grownBy (w.setRow g cs) (some g) :=
  ⟨rfl, rfl, rfl, by simp [World.setRow], fun k _ hk => setRow_other w g k cs (fun e => hk (by rw [e]))⟩
theorem put_no {w : World} {base b : Nat} {A : Option Addr} {cap : Nat} {zs : List Int} {most : Int} {over : Bool} (h : IsArena w base b A cap zs most over) (S : Option Addr) (m c : Nat) (hno : over = true ∨ most - zs.length < m) :
    Calls Tryz.prog 99 #[.pointer (some ⟨b, 0, none⟩), .slice S m c] w fun e w' => e = .returned (.tuple #[.int .i64 0, .bool false]) ∧ Stepped w w' base b A zs most true := by
  have HR := Lib.hid (room_no (n := (m : Int)) h (by rcases hno with h | h; exact .inl h; exact .inr (.inr h)))
  clear h hno
  go_enter Tryz.func99, Tryz.ntmps99
  go_wp2_with (go_at_call 129; refine HR.out.mono ?_; rintro e w' ⟨rfl, hst⟩; have HST := Lib.hid hst; clear hst)
  go_ret2
  exact ⟨rfl, HST.out⟩
theorem put_yes {w : World} {base b : Nat} {A : Option Addr} {cap : Nat} {zs news : List Int} {most : Int} (h : IsArena w base b A cap zs most false) (S : Option Addr) (m c : Nat) (hfit : (m : Int) ≤ most - zs.length) (hbase : base ≤ w.heap.size) (hm : news.length = m)
    (hsrc : ∀ w', Moved w w' b (rowOf A) → SrcRow w' S m c (u8s news)) :
    Calls Tryz.prog 99 #[.pointer (some ⟨b, 0, none⟩), .slice S m c] w fun e w' => e = .returned (.tuple #[.int .i64 zs.length, .bool true]) ∧ Stepped w w' base b A (zs ++ news) most false := by
  have HR := Lib.hid (room_yes (n := (m : Int)) h (by omega) hfit hbase)
  have HS := Lib.hid hsrc
  have hzb := h.fits
  have hbd := h.bound
  have hll : (zs ++ zeros m).length = zs.length + m := by simp [zeros]
  have HLL := Lib.hid hll
  have HMM := Lib.hid hm
  clear h hsrc hm hll
  go_enter Tryz.func99, Tryz.ntmps99
  go_wp2_with fail
  refine HR.out.mono ?_
  rintro e w1 ⟨rfl, A1, cap1, hA1, hm1, hf1⟩
  rw [Int.toNat_natCast] at hA1
  have H1 := Lib.hid hA1
  have HM := Lib.hid hm1
  have HF := Lib.hid hf1
  have c0 := hA1.c0
  rw [HLL.out] at c0
  clear hm1 hf1 HR
  by_cases h0 : m = 0
  · subst h0
    have hn : news = [] := List.eq_nil_of_length_eq_zero HMM.out
    subst hn
    have fin : Stepped w w1 base b A (zs ++ []) most false := ⟨A1, cap1, by simpa [zeros] using H1.out, HM.out, HF.out⟩
    have FIN := Lib.hid fin
    clear fin
    have hrun : ∀ (dp : Option Addr) (dl dc : Nat), (Builtin.copy_ #[22, 22] 3 #[.slice dp dl dc, .slice S 0 c]).run Tryz.prog w1 = .ok (goInt 0) w1 := fun dp dl dc => run_copy_none (P := Tryz.prog) w1 22 22 3 5 dp S dl dc 0 c Tryz.underlying22 u8_size (Nat.zero_min dl)
    rcases hA1.own.nil_or with ⟨rfl, rfl, hz⟩ | ⟨g, rfl, hr⟩
    · have hz0 : zs.length = 0 := by have := congrArg List.length hz; simp [zeros] at this; simp [this]
      rw [hz0] at c0
      clear hA1 hz
      go_wp2
      go_ret2
      exact ⟨by rw [hz0]; rfl, FIN.out⟩
    · have hcp := hr.facts.2.2.2.1
      rw [HLL.out] at hcp
      clear hA1 hr
      by_cases he : zs.length = cap1
      · go_wp2
        go_ret2
        exact ⟨by rw [he]; rfl, FIN.out⟩
      · have hlt : zs.length < cap1 := by omega
        go_wp2
        go_ret2
        exact ⟨rfl, FIN.out⟩
  · rcases hA1.own.nil_or with ⟨rfl, rfl, hz⟩ | ⟨g, rfl, hr⟩
    · have := congrArg List.length hz
      simp [zeros] at this
      omega
    · have HRR := Lib.hid hr
      have hcp := hr.facts.2.2.2.1
      rw [HLL.out] at hcp
      obtain ⟨cur, hg, hbg, hn, hmx, hcl, ht, hl⟩ := hr.opened
      rw [HLL.out] at ht
      have HG := Lib.hid hg
      have HT := Lib.hid ht
      have HCL := Lib.hid hcl
      have hs := HS.out w1 HM.out
      obtain ⟨hs1, hs2, hs3⟩ := hs
      rcases hs3 with ⟨rfl, hmz, _⟩ | ⟨ad, rfl, hsc⟩
      · exact absurd hmz h0
      have HSC := Lib.hid hsc
      have hul : (u8s news).length = m := by rw [length_u8s]; exact HMM.out
      have HUL := Lib.hid hul
      have hlt : zs.length < cap1 := by omega
      clear hA1 hr hg hbg hn hmx hcl ht hl hs1 hs2 hsc hul HS
      have hrun := run_copy_row (P := Tryz.prog) w1 22 22 3 5 g zs.length m (cap1 - zs.length) ad m c cur.toArray 5 (u8s news) Tryz.underlying22 u8_size HG.out (by rw [HUL.out]; exact (Nat.min_self m).symm) HSC.out (by rw [HUL.out]; simp [HCL.out]; omega) (u8s_one _)
      rw [HUL.out] at hrun
      obtain ⟨w2, hw2⟩ : ∃ w2, w1.setRow g (cur.toArray.toList.take zs.length ++ u8s news ++ cur.toArray.toList.drop (zs.length + m)).toArray = w2 := ⟨_, rfl⟩
      rw [hw2] at hrun
      have HW := Lib.hid hw2
      clear hw2
      go_wp2
      go_ret2
      refine ⟨rfl, Stepped.trans (stepped_store H1.out (zs' := zs ++ news) ?_ ?_) HM.out HF.out⟩
      · have hgg : w2.heap[g]? = some (.cells (splice cur zs.length (u8s news)).toArray 5 (0, 0)) := by
          rw [← HW.out, setRow_heap w1 g cur.toArray _ 5 (0, 0) HG.out]
          simp [splice, HUL.out]
        have hmm := HMM.out
        have hz := splice_end zs news
        rw [hmm] at hz
        rw [← hz]
        refine ownR_of_splice (cur := cur) (a := zs.length) HRR.out.facts.2.1 HRR.out.facts.2.2.2.1 HRR.out.facts.2.2.2.2.1 HCL.out ?_ ?_ ?_ hgg
        · rw [HLL.out]; exact HT.out
        · rfl
        · rw [HLL.out, hmm]; exact Nat.le_refl _
      · rw [← HW.out]; exact grown_setRow w1 g _
theorem OwnV.src {w : World} {base : Nat} {e : TypeId} {A : Option Addr} {cap : Nat} {zs : List Int} (h : OwnV w base e A cap zs) : SrcRow w A zs.length cap (u8s zs) := by
  refine ⟨length_u8s zs, u8s_one zs, ?_⟩
  rcases h.nil_or with ⟨rfl, rfl, rfl⟩ | ⟨g, rfl, hr⟩
  · exact .inl ⟨rfl, rfl, rfl⟩
  · exact .inr ⟨_, rfl, laid_src hr⟩
theorem copy_src {w : World} {base g n cap a m c ty : Nat} {S : Option Addr} {olds news : List Int} (h : OwnR w base 5 g n cap olds) (hs : SrcRow w S m c (u8s news)) (hfit : a + m ≤ n) (D : Option Addr) (dl dc : Nat) (hd : m ≤ dl) (hD : m = 0 ∨ D = some ⟨g, a, none⟩) :
    ∃ w', (Builtin.copy_ #[22, 22] ty #[.slice D dl dc, .slice S m c]).run Tryz.prog w = .ok (goInt m) w' ∧ OwnR w' base 5 g n cap (splice olds a news) ∧ w.grownBy w' (some g) := by
  obtain ⟨hl, h1, hA⟩ := hs
  by_cases h0 : m = 0
  · subst h0
    have hn : news = [] := by
      have : (u8s news).length = 0 := hl
      rw [length_u8s] at this
      exact List.eq_nil_of_length_eq_zero this
    subst hn
    refine ⟨w, run_copy_none (P := Tryz.prog) w 22 22 ty 5 D S dl dc 0 c Tryz.underlying22 u8_size (Nat.zero_min dl), ?_, World.grownBy.refl w _⟩
    simpa [splice] using h
  · obtain rfl : D = some ⟨g, a, none⟩ := by
      rcases hD with h | h
      · exact absurd h h0
      · exact h
    rcases hA with ⟨_, hm, _⟩ | ⟨ad, rfl, hsc⟩
    · exact absurd hm h0
    obtain ⟨cur, hg, hbg, hn, hmx, hcl, ht, hlo⟩ := h.opened
    have hrun := run_copy_row (P := Tryz.prog) w 22 22 ty 5 g a dl dc ad m c cur.toArray 5 (u8s news) Tryz.underlying22 u8_size hg (by rw [hl]; exact (Nat.min_eq_left hd).symm) hsc (by rw [hl]; simp [hcl]; omega) h1
    rw [hl] at hrun
    have hnl : news.length = m := by rw [← length_u8s]; exact hl
    refine ⟨_, hrun, ?_, grown_setRow w g _⟩
    refine ownR_of_splice (cur := cur) (a := a) hbg hn hmx hcl ht hlo (by omega) ?_
    rw [setRow_heap w g cur.toArray _ 5 (0, 0) hg]
    simp [splice, hl]
theorem splice_whole (olds zs : List Int) (h : olds.length = zs.length) : splice olds 0 zs = zs := by
  unfold splice
  rw [List.take_zero, List.nil_append, List.drop_eq_nil_of_le (by omega), List.append_nil]
theorem bytes_lay {w w2 : World} {base b n : Nat} {A : Option Addr} {cap : Nat} {zs : List Int} {most : Int} {over : Bool} (h : IsArena w base b A cap zs most over) (hn : zs.length = n)
    (hown2 : w2.ownsRow w.heap.size 5 1 (.slice (some ⟨w.heap.size, 0, none⟩) n n) n (madeCells (Value.int .u8 0).cells (n * 1)).toList) (hg2 : w.grownBy w2 none) :
    ∃ w3, (Builtin.copy_ #[22, 22] 3 #[.slice (some ⟨w.heap.size, 0, none⟩) n n, .slice A n cap]).run Tryz.prog w2 = .ok (goInt n) w3 ∧ OwnR w3 w.heap.size 5 w.heap.size n n zs ∧ Below w.heap.size w w3 := by
  have hro : OwnR w2 w.heap.size 5 w.heap.size n n (zeros n) := by
    unfold OwnR
    rw [← made_zeros]
    rw [Nat.mul_one] at hown2
    exact hown2
  have hsr := (h.own.kept (fun k hk' => hg2.block k (h.own.row k hk').2 (by simp))).src
  rw [hn] at hsr
  obtain ⟨w3, hrun, ho3, hg3⟩ := copy_src (ty := 3) (a := 0) hro hsr (by omega) (some ⟨w.heap.size, 0, none⟩) n n (Nat.le_refl _) (.inr rfl)
  refine ⟨w3, hrun, ?_, ((Below.refl _ _).grown hg2 (Nat.le_refl _) (by simp)).grown hg3 hg2.size (by simp)⟩
  rw [splice_whole _ _ (by rw [hn]; simp [zeros])] at ho3
  exact ho3
theorem bytes_yes {w : World} {base b : Nat} {A : Option Addr} {cap : Nat} {zs : List Int} {most : Int} (h : IsArena w base b A cap zs most false) :
    Calls Tryz.prog 68 #[.pointer (some ⟨b, 0, none⟩)] w fun e w' => e = .returned (.tuple #[.slice (some ⟨w.heap.size, 0, none⟩) zs.length zs.length, .bool true]) ∧ OwnR w' w.heap.size 5 w.heap.size zs.length zs.length zs ∧ Below w.heap.size w w' := by
  obtain ⟨i0, hi0, hz0, hz1, hz2⟩ := info_parts u8_info
  have I1 := Lib.hid hi0
  have I2 := Lib.hid hz0
  have I3 := Lib.hid hz1
  have I4 := Lib.hid hz2
  have H := Lib.hid h
  have c0 := h.c0
  have c2 := h.c2
  have hzb := h.fits
  have hbd := h.bound
  have hlt := h.lt
  obtain ⟨n, hn⟩ : ∃ n, zs.length = n := ⟨_, rfl⟩
  rw [hn] at c0 hzb ⊢
  have HN := Lib.hid hn
  have hnbd : n ≤ 2147483647 := by omega
  clear hi0 hz0 hz1 hz2 h hn
  go_enter Tryz.func68, Tryz.ntmps68
  go_wp2_with (at_make; refine wpList_make_full _ rfl _ _ 22 rfl w.heap.size 5 i0 (.int .u8 0) 1 Tryz.underlying22 I1.out I2.out I3.out .i64 .i64 _ _ n rfl rfl rfl rfl (by rw [I4.out]; omega) (by unfold maxLen; omega) (Nat.le_refl _) ?_; intro w2 hown2 hg2; have hk := hg2.block _ hlt (by simp); have d0 := (World.cell?_of_block (w := w) (a := ⟨b, 0, none⟩) hk).trans c0; obtain ⟨w3, hrun, ho3, hb3⟩ := bytes_lay H.out HN.out hown2 hg2; have HO3 := Lib.hid ho3; have HB3 := Lib.hid hb3; clear hown2 hg2 hk ho3 hb3)
  go_ret2
  exact ⟨rfl, HO3.out, HB3.out⟩
end Go.Proofs.YtiknhkkeifemcaaGreatDoor
namespace Go.Proofs.YtiknhkkeifemcaaGreatDoor
open Go.ChangeShapes Go.WideShapes Go.ChangeAt Go.RowKit

structure Fx (wk ak mk : Nat) (A A' : Option Addr) (w w' : World) : Prop where
  os : w'.os = w.os
  tape : w'.tape = w.tape
  output : w'.output = w.output
  size : w.heap.size ≤ w'.heap.size
  block : ∀ k, k < w.heap.size → k ≠ wk → k ≠ ak → k ≠ mk → some k ≠ rowOf A → w'.heap[k]? = w.heap[k]?
  row : Fresh w A A'
theorem Fx.refl (wk ak mk : Nat) (A : Option Addr) (w : World) : Fx wk ak mk A A w w := ⟨rfl, rfl, rfl, Nat.le_refl _, fun _ _ _ _ _ _ => rfl, Fresh.refl w A⟩
theorem Fx.trans {wk ak mk : Nat} {A A1 A2 : Option Addr} {w w1 w2 : World} (h : Fx wk ak mk A A1 w w1) (k : Fx wk ak mk A1 A2 w1 w2) : Fx wk ak mk A A2 w w2 := by
  refine ⟨k.os.trans h.os, k.tape.trans h.tape, k.output.trans h.output, Nat.le_trans h.size k.size, fun i hi h1 h2 h3 h4 => (k.block i (Nat.lt_of_lt_of_le hi h.size) h1 h2 h3 ?_).trans (h.block i hi h1 h2 h3 h4), ?_⟩
  · rcases h.row with e | ⟨j, e, hj⟩
    · rw [e]; exact h4
    · rw [e]; intro e2; injection e2 with e2; omega
  · rcases k.row with e | ⟨j, e, hj⟩
    · rcases h.row with e' | ⟨j, e', hj⟩
      · exact .inl (e.trans e')
      · exact .inr ⟨j, e.trans e', hj⟩
    · exact .inr ⟨j, e, Nat.le_trans h.size hj⟩
theorem Fx.of_below {wk ak mk : Nat} (A : Option Addr) {w w' : World} (h : Below w.heap.size w w') : Fx wk ak mk A A w w' := ⟨h.os, h.tape, h.output, h.size, fun k hk _ _ _ _ => h.block k hk, Fresh.refl w A⟩
theorem Fx.of_moved {wk ak mk : Nat} {A A' : Option Addr} {w w' : World} (h : Moved w w' ak (rowOf A)) (hf : Fresh w A A') : Fx wk ak mk A A' w w' := ⟨h.os, h.tape, h.output, h.size, fun k hk _ h2 _ h4 => h.block k hk h2 h4, hf⟩
theorem Fx.blk {wk ak mk g : Nat} {A A' : Option Addr} {w w' : World} {o : Obj} (h : Fx wk ak mk A A' w w') (hg : w.heap[g]? = some o) (h1 : g ≠ wk) (h2 : g ≠ ak) (h3 : g ≠ mk) (h4 : some g ≠ rowOf A) : w'.heap[g]? = some o := (h.block g (blk_lt hg) h1 h2 h3 h4).trans hg
end Go.Proofs.YtiknhkkeifemcaaGreatDoor
namespace Go.Proofs.YtiknhkkeifemcaaGreatDoor
open Go.ChangeShapes Go.WideShapes Go.ChangeAt Go.RowKit Go.Shelf

theorem exc_fx {w W W2 : World} {wk ak mk : Nat} {A A' : Option Addr} (hb : Below w.heap.size w W) (hx : Fx wk ak mk A A' W W2) (h1 : w.heap.size ≤ wk) (h2 : w.heap.size ≤ ak) (h3 : ∀ r, rowOf A = some r → w.heap.size ≤ r) : Exc mk w.heap.size w W2 :=
  ⟨hx.os.trans hb.os, hx.tape.trans hb.tape, hx.output.trans hb.output, Nat.le_trans hb.size hx.size, fun j hj hne => (hx.block j (Nat.lt_of_lt_of_le hj hb.size) (by omega) (by omega) hne (fun e => by have := h3 j e.symm; omega)).trans (hb.block j hj)⟩
theorem exc_low {R B : Nat} (mk : Nat) {W W' : World} (hb : Below B W W') (h : R ≤ B) : Exc mk R W W' := ⟨hb.os, hb.tape, hb.output, hb.size, fun j hj _ => hb.block j (Nat.lt_of_lt_of_le hj h)⟩
end Go.Proofs.YtiknhkkeifemcaaGreatDoor
