/-
  The frames of the maker's fields where some of its slots are known, and written out. No run stands in this text. (Made by program: wip/tools/gen-mkfdf.py.)
-/
import Derived.Test.YtgbcchiheddfpaaGreatDoorPkL36
import Derived.Test.YtgbcchiheddfpaaGreatDoorPkL41
namespace Go.Proofs.YtgbcchiheddfpaaGreatDoor
open Go.ChangeShapes Go.WideShapes Go.ChangeAt Go.RowKit

theorem arr_litFd (t : Array Value) (h : t.size = 60) : t = ((List.range 60).map fun n => t.getD n undef).toArray := by
  apply Array.ext'
  apply List.ext_getElem?
  intro i
  by_cases hi : i < 60
  · have h' : i < t.size := by omega
    simp [hi, h', Array.getD]
  · have h' : ¬ i < t.size := by omega
    simp [hi, h']
set_option maxRecDepth 100000 in
theorem lit_allFd (u : Nat → Value) : ((List.range 60).map u).toArray = #[u 0, u 1, u 2, u 3, u 4, u 5, u 6, u 7, u 8, u 9, u 10, u 11, u 12, u 13, u 14, u 15, u 16, u 17, u 18, u 19, u 20, u 21, u 22, u 23, u 24, u 25, u 26, u 27, u 28, u 29, u 30, u 31, u 32, u 33, u 34, u 35, u 36, u 37, u 38, u 39, u 40, u 41, u 42, u 43, u 44, u 45, u 46, u 47, u 48, u 49, u 50, u 51, u 52, u 53, u 54, u 55, u 56, u 57, u 58, u 59] := rfl
structure FdO (M R : Nat) (a : Option Addr) (n e k : Nat) (c : Act) : Prop where
  df : c.defers = []
  sz : c.tmps.size = 60
  s0 : c.tmps.getD 0 undef = .pointer (some ⟨M, 0, none⟩)
  s2 : c.tmps.getD 2 undef = .pointer (some ⟨R, 0, none⟩)
  s13 : c.tmps.getD 13 undef = .slice a n e
  s14 : c.tmps.getD 14 undef = .int .i64 n
  s15 : c.tmps.getD 15 undef = .int .i64 k
set_option maxRecDepth 100000 in
theorem FdO.lit {M R : Nat} {a : Option Addr} {n e k : Nat} {c : Act} (h : FdO M R a n e k c) : ∃ u : Nat → Value, c = ⟨#[.pointer (some ⟨M, 0, none⟩), u 1, .pointer (some ⟨R, 0, none⟩), u 3, u 4, u 5, u 6, u 7, u 8, u 9, u 10, u 11, u 12, .slice a n e, .int .i64 n, .int .i64 k, u 16, u 17, u 18, u 19, u 20, u 21, u 22, u 23, u 24, u 25, u 26, u 27, u 28, u 29, u 30, u 31, u 32, u 33, u 34, u 35, u 36, u 37, u 38, u 39, u 40, u 41, u 42, u 43, u 44, u 45, u 46, u 47, u 48, u 49, u 50, u 51, u 52, u 53, u 54, u 55, u 56, u 57, u 58, u 59], []⟩ := by
  obtain ⟨hd, hs, h0, h2, h13, h14, h15⟩ := h
  refine ⟨fun n => c.tmps.getD n undef, ?_⟩
  obtain ⟨t, d⟩ := c
  simp only at hd hs h0 h2 h13 h14 h15 ⊢
  subst hd
  congr 1
  refine (arr_litFd t hs).trans ?_
  rw [lit_allFd]
  simp only [h0, h2, h13, h14, h15]
structure FdI (M R : Nat) (a : Option Addr) (n e k : Nat) (b : Option Addr) (m f j : Nat) (c : Act) : Prop where
  df : c.defers = []
  sz : c.tmps.size = 60
  s0 : c.tmps.getD 0 undef = .pointer (some ⟨M, 0, none⟩)
  s2 : c.tmps.getD 2 undef = .pointer (some ⟨R, 0, none⟩)
  s3 : c.tmps.getD 3 undef = .int .i64 k
  s13 : c.tmps.getD 13 undef = .slice a n e
  s14 : c.tmps.getD 14 undef = .int .i64 n
  s15 : c.tmps.getD 15 undef = .int .i64 k
  s21 : c.tmps.getD 21 undef = .slice b m f
  s22 : c.tmps.getD 22 undef = .int .i64 m
  s23 : c.tmps.getD 23 undef = .int .i64 j
set_option maxRecDepth 100000 in
theorem FdI.lit {M R : Nat} {a : Option Addr} {n e k : Nat} {b : Option Addr} {m f j : Nat} {c : Act} (h : FdI M R a n e k b m f j c) : ∃ u : Nat → Value, c = ⟨#[.pointer (some ⟨M, 0, none⟩), u 1, .pointer (some ⟨R, 0, none⟩), .int .i64 k, u 4, u 5, u 6, u 7, u 8, u 9, u 10, u 11, u 12, .slice a n e, .int .i64 n, .int .i64 k, u 16, u 17, u 18, u 19, u 20, .slice b m f, .int .i64 m, .int .i64 j, u 24, u 25, u 26, u 27, u 28, u 29, u 30, u 31, u 32, u 33, u 34, u 35, u 36, u 37, u 38, u 39, u 40, u 41, u 42, u 43, u 44, u 45, u 46, u 47, u 48, u 49, u 50, u 51, u 52, u 53, u 54, u 55, u 56, u 57, u 58, u 59], []⟩ := by
  obtain ⟨hd, hs, h0, h2, h3, h13, h14, h15, h21, h22, h23⟩ := h
  refine ⟨fun n => c.tmps.getD n undef, ?_⟩
  obtain ⟨t, d⟩ := c
  simp only at hd hs h0 h2 h3 h13 h14 h15 h21 h22 h23 ⊢
  subst hd
  congr 1
  refine (arr_litFd t hs).trans ?_
  rw [lit_allFd]
  simp only [h0, h2, h3, h13, h14, h15, h21, h22, h23]
end Go.Proofs.YtgbcchiheddfpaaGreatDoor
