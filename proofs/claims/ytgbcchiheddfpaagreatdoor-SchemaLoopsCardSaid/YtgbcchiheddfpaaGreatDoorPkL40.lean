/-
  The frame of the maker's structs where some of its slots are known, and written out. No run stands in this text. (Made by program: wip/tools/gen-mkstf.py.)
-/
import Derived.Test.YtgbcchiheddfpaaGreatDoorPkL38
namespace Go.Proofs.YtgbcchiheddfpaaGreatDoor
open Go.ChangeShapes Go.WideShapes Go.ChangeAt Go.RowKit

theorem arr_litSt (t : Array Value) (h : t.size = 70) : t = ((List.range 70).map fun n => t.getD n undef).toArray := by
  apply Array.ext'
  apply List.ext_getElem?
  intro i
  by_cases hi : i < 70
  · have h' : i < t.size := by omega
    simp [hi, h', Array.getD]
  · have h' : ¬ i < t.size := by omega
    simp [hi, h']
set_option maxRecDepth 100000 in
theorem lit_allSt (u : Nat → Value) : ((List.range 70).map u).toArray = #[u 0, u 1, u 2, u 3, u 4, u 5, u 6, u 7, u 8, u 9, u 10, u 11, u 12, u 13, u 14, u 15, u 16, u 17, u 18, u 19, u 20, u 21, u 22, u 23, u 24, u 25, u 26, u 27, u 28, u 29, u 30, u 31, u 32, u 33, u 34, u 35, u 36, u 37, u 38, u 39, u 40, u 41, u 42, u 43, u 44, u 45, u 46, u 47, u 48, u 49, u 50, u 51, u 52, u 53, u 54, u 55, u 56, u 57, u 58, u 59, u 60, u 61, u 62, u 63, u 64, u 65, u 66, u 67, u 68, u 69] := rfl
structure StO (M R : Nat) (a : Option Addr) (n e k : Nat) (c : Act) : Prop where
  df : c.defers = []
  sz : c.tmps.size = 70
  s0 : c.tmps.getD 0 undef = .pointer (some ⟨M, 0, none⟩)
  s2 : c.tmps.getD 2 undef = .pointer (some ⟨R, 0, none⟩)
  s12 : c.tmps.getD 12 undef = .slice a n e
  s13 : c.tmps.getD 13 undef = .int .i64 n
  s14 : c.tmps.getD 14 undef = .int .i64 k
set_option maxRecDepth 100000 in
theorem StO.lit {M R : Nat} {a : Option Addr} {n e k : Nat} {c : Act} (h : StO M R a n e k c) : ∃ u : Nat → Value, c = ⟨#[.pointer (some ⟨M, 0, none⟩), u 1, .pointer (some ⟨R, 0, none⟩), u 3, u 4, u 5, u 6, u 7, u 8, u 9, u 10, u 11, .slice a n e, .int .i64 n, .int .i64 k, u 15, u 16, u 17, u 18, u 19, u 20, u 21, u 22, u 23, u 24, u 25, u 26, u 27, u 28, u 29, u 30, u 31, u 32, u 33, u 34, u 35, u 36, u 37, u 38, u 39, u 40, u 41, u 42, u 43, u 44, u 45, u 46, u 47, u 48, u 49, u 50, u 51, u 52, u 53, u 54, u 55, u 56, u 57, u 58, u 59, u 60, u 61, u 62, u 63, u 64, u 65, u 66, u 67, u 68, u 69], []⟩ := by
  obtain ⟨hd, hs, h0, h2, h12, h13, h14⟩ := h
  refine ⟨fun n => c.tmps.getD n undef, ?_⟩
  obtain ⟨t, d⟩ := c
  simp only at hd hs h0 h2 h12 h13 h14 ⊢
  subst hd
  congr 1
  refine (arr_litSt t hs).trans ?_
  rw [lit_allSt]
  simp only [h0, h2, h12, h13, h14]
end Go.Proofs.YtgbcchiheddfpaaGreatDoor
