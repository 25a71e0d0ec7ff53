/-
  The document's Check: the loop over the enums. Conditions: those that each theorem names; the library's tables hold what the row lists.
-/
import Derived.Test.YtdlfndjgncdgfaaGreatDoorPkS12
import Derived.Test.YtdlfndjgncdgfaaGreatDoorPkS35
import Derived.Test.YtdlfndjgncdgfaaGreatDoorPkS41
import Derived.Deep.RegionHeld3
namespace Go.Proofs.YtdlfndjgncdgfaaGreatDoor
open Go.ChangeShapes Go.WideShapes Go.ChangeAt Go.RowKit

theorem arr_litRc (t : Array Value) (h : t.size = 209) : t = ((List.range 209).map fun n => t.getD n undef).toArray := by
  apply Array.ext'
  apply List.ext_getElem?
  intro i
  by_cases hi : i < 209
  · have h' : i < t.size := by omega
    simp [hi, h', Array.getD]
  · have h' : ¬ i < t.size := by omega
    simp [hi, h']
set_option maxRecDepth 100000 in
theorem lit_allRc (u : Nat → Value) : ((List.range 209).map u).toArray = #[u 0, u 1, u 2, u 3, u 4, u 5, u 6, u 7, u 8, u 9, u 10, u 11, u 12, u 13, u 14, u 15, u 16, u 17, u 18, u 19, u 20, u 21, u 22, u 23, u 24, u 25, u 26, u 27, u 28, u 29, u 30, u 31, u 32, u 33, u 34, u 35, u 36, u 37, u 38, u 39, u 40, u 41, u 42, u 43, u 44, u 45, u 46, u 47, u 48, u 49, u 50, u 51, u 52, u 53, u 54, u 55, u 56, u 57, u 58, u 59, u 60, u 61, u 62, u 63, u 64, u 65, u 66, u 67, u 68, u 69, u 70, u 71, u 72, u 73, u 74, u 75, u 76, u 77, u 78, u 79, u 80, u 81, u 82, u 83, u 84, u 85, u 86, u 87, u 88, u 89, u 90, u 91, u 92, u 93, u 94, u 95, u 96, u 97, u 98, u 99, u 100, u 101, u 102, u 103, u 104, u 105, u 106, u 107, u 108, u 109, u 110, u 111, u 112, u 113, u 114, u 115, u 116, u 117, u 118, u 119, u 120, u 121, u 122, u 123, u 124, u 125, u 126, u 127, u 128, u 129, u 130, u 131, u 132, u 133, u 134, u 135, u 136, u 137, u 138, u 139, u 140, u 141, u 142, u 143, u 144, u 145, u 146, u 147, u 148, u 149, u 150, u 151, u 152, u 153, u 154, u 155, u 156, u 157, u 158, u 159, u 160, u 161, u 162, u 163, u 164, u 165, u 166, u 167, u 168, u 169, u 170, u 171, u 172, u 173, u 174, u 175, u 176, u 177, u 178, u 179, u 180, u 181, u 182, u 183, u 184, u 185, u 186, u 187, u 188, u 189, u 190, u 191, u 192, u 193, u 194, u 195, u 196, u 197, u 198, u 199, u 200, u 201, u 202, u 203, u 204, u 205, u 206, u 207, u 208] := rfl
noncomputable def loopsRc (n : Nat) : Code := ((Tryz.f13.body.map loopsOf).getD []).getD n .skip
structure RcA (q : Nat) (a : Option Addr) (n e i : Nat) (c : Act) : Prop where
  df : c.defers = []
  sz : c.tmps.size = 209
  s1 : c.tmps.getD 1 undef = .pointer (some ⟨q, 0, none⟩)
  s3 : c.tmps.getD 3 undef = .slice a n e
  s4 : c.tmps.getD 4 undef = .int .i64 i
set_option maxRecDepth 100000 in
theorem RcA.lit {q : Nat} {a : Option Addr} {n e i : Nat} {c : Act} (h : RcA q a n e i c) : ∃ u : Nat → Value, c = ⟨#[u 0, .pointer (some ⟨q, 0, none⟩), u 2, .slice a n e, .int .i64 i, u 5, u 6, u 7, u 8, u 9, u 10, u 11, u 12, u 13, u 14, u 15, u 16, u 17, u 18, u 19, u 20, u 21, u 22, u 23, u 24, u 25, u 26, u 27, u 28, u 29, u 30, u 31, u 32, u 33, u 34, u 35, u 36, u 37, u 38, u 39, u 40, u 41, u 42, u 43, u 44, u 45, u 46, u 47, u 48, u 49, u 50, u 51, u 52, u 53, u 54, u 55, u 56, u 57, u 58, u 59, u 60, u 61, u 62, u 63, u 64, u 65, u 66, u 67, u 68, u 69, u 70, u 71, u 72, u 73, u 74, u 75, u 76, u 77, u 78, u 79, u 80, u 81, u 82, u 83, u 84, u 85, u 86, u 87, u 88, u 89, u 90, u 91, u 92, u 93, u 94, u 95, u 96, u 97, u 98, u 99, u 100, u 101, u 102, u 103, u 104, u 105, u 106, u 107, u 108, u 109, u 110, u 111, u 112, u 113, u 114, u 115, u 116, u 117, u 118, u 119, u 120, u 121, u 122, u 123, u 124, u 125, u 126, u 127, u 128, u 129, u 130, u 131, u 132, u 133, u 134, u 135, u 136, u 137, u 138, u 139, u 140, u 141, u 142, u 143, u 144, u 145, u 146, u 147, u 148, u 149, u 150, u 151, u 152, u 153, u 154, u 155, u 156, u 157, u 158, u 159, u 160, u 161, u 162, u 163, u 164, u 165, u 166, u 167, u 168, u 169, u 170, u 171, u 172, u 173, u 174, u 175, u 176, u 177, u 178, u 179, u 180, u 181, u 182, u 183, u 184, u 185, u 186, u 187, u 188, u 189, u 190, u 191, u 192, u 193, u 194, u 195, u 196, u 197, u 198, u 199, u 200, u 201, u 202, u 203, u 204, u 205, u 206, u 207, u 208], []⟩ := by
  obtain ⟨hd, hs, h1, h3, h4⟩ := h
  refine ⟨fun n => c.tmps.getD n undef, ?_⟩
  obtain ⟨t, d⟩ := c
  simp only at hd hs h1 h3 h4 ⊢
  subst hd
  congr 1
  refine (arr_litRc t hs).trans ?_
  rw [lit_allRc]
  simp only [h1, h3, h4]
structure RcA2 (q : Nat) (a : Option Addr) (n e i : Nat) (E k : Nat) (c : Act) : Prop where
  df : c.defers = []
  sz : c.tmps.size = 209
  s1 : c.tmps.getD 1 undef = .pointer (some ⟨q, 0, none⟩)
  s3 : c.tmps.getD 3 undef = .slice a n e
  s4 : c.tmps.getD 4 undef = .int .i64 i
  s5 : c.tmps.getD 5 undef = .pointer (some ⟨E, 0, none⟩)
  s6 : c.tmps.getD 6 undef = .int .i64 k
set_option maxRecDepth 100000 in
theorem RcA2.lit {q : Nat} {a : Option Addr} {n e i : Nat} {E k : Nat} {c : Act} (h : RcA2 q a n e i E k c) : ∃ u : Nat → Value, c = ⟨#[u 0, .pointer (some ⟨q, 0, none⟩), u 2, .slice a n e, .int .i64 i, .pointer (some ⟨E, 0, none⟩), .int .i64 k, u 7, u 8, u 9, u 10, u 11, u 12, u 13, u 14, u 15, u 16, u 17, u 18, u 19, u 20, u 21, u 22, u 23, u 24, u 25, u 26, u 27, u 28, u 29, u 30, u 31, u 32, u 33, u 34, u 35, u 36, u 37, u 38, u 39, u 40, u 41, u 42, u 43, u 44, u 45, u 46, u 47, u 48, u 49, u 50, u 51, u 52, u 53, u 54, u 55, u 56, u 57, u 58, u 59, u 60, u 61, u 62, u 63, u 64, u 65, u 66, u 67, u 68, u 69, u 70, u 71, u 72, u 73, u 74, u 75, u 76, u 77, u 78, u 79, u 80, u 81, u 82, u 83, u 84, u 85, u 86, u 87, u 88, u 89, u 90, u 91, u 92, u 93, u 94, u 95, u 96, u 97, u 98, u 99, u 100, u 101, u 102, u 103, u 104, u 105, u 106, u 107, u 108, u 109, u 110, u 111, u 112, u 113, u 114, u 115, u 116, u 117, u 118, u 119, u 120, u 121, u 122, u 123, u 124, u 125, u 126, u 127, u 128, u 129, u 130, u 131, u 132, u 133, u 134, u 135, u 136, u 137, u 138, u 139, u 140, u 141, u 142, u 143, u 144, u 145, u 146, u 147, u 148, u 149, u 150, u 151, u 152, u 153, u 154, u 155, u 156, u 157, u 158, u 159, u 160, u 161, u 162, u 163, u 164, u 165, u 166, u 167, u 168, u 169, u 170, u 171, u 172, u 173, u 174, u 175, u 176, u 177, u 178, u 179, u 180, u 181, u 182, u 183, u 184, u 185, u 186, u 187, u 188, u 189, u 190, u 191, u 192, u 193, u 194, u 195, u 196, u 197, u 198, u 199, u 200, u 201, u 202, u 203, u 204, u 205, u 206, u 207, u 208], []⟩ := by
  obtain ⟨hd, hs, h1, h3, h4, h5, h6⟩ := h
  refine ⟨fun n => c.tmps.getD n undef, ?_⟩
  obtain ⟨t, d⟩ := c
  simp only at hd hs h1 h3 h4 h5 h6 ⊢
  subst hd
  congr 1
  refine (arr_litRc t hs).trans ?_
  rw [lit_allRc]
  simp only [h1, h3, h4, h5, h6]
structure RcB (q : Nat) (a : Option Addr) (n e i : Nat) (c : Act) : Prop where
  df : c.defers = []
  sz : c.tmps.size = 209
  s1 : c.tmps.getD 1 undef = .pointer (some ⟨q, 0, none⟩)
  s3 : c.tmps.getD 3 undef = .slice a n e
  s7 : c.tmps.getD 7 undef = .int .i64 i
set_option maxRecDepth 100000 in
theorem RcB.lit {q : Nat} {a : Option Addr} {n e i : Nat} {c : Act} (h : RcB q a n e i c) : ∃ u : Nat → Value, c = ⟨#[u 0, .pointer (some ⟨q, 0, none⟩), u 2, .slice a n e, u 4, u 5, u 6, .int .i64 i, u 8, u 9, u 10, u 11, u 12, u 13, u 14, u 15, u 16, u 17, u 18, u 19, u 20, u 21, u 22, u 23, u 24, u 25, u 26, u 27, u 28, u 29, u 30, u 31, u 32, u 33, u 34, u 35, u 36, u 37, u 38, u 39, u 40, u 41, u 42, u 43, u 44, u 45, u 46, u 47, u 48, u 49, u 50, u 51, u 52, u 53, u 54, u 55, u 56, u 57, u 58, u 59, u 60, u 61, u 62, u 63, u 64, u 65, u 66, u 67, u 68, u 69, u 70, u 71, u 72, u 73, u 74, u 75, u 76, u 77, u 78, u 79, u 80, u 81, u 82, u 83, u 84, u 85, u 86, u 87, u 88, u 89, u 90, u 91, u 92, u 93, u 94, u 95, u 96, u 97, u 98, u 99, u 100, u 101, u 102, u 103, u 104, u 105, u 106, u 107, u 108, u 109, u 110, u 111, u 112, u 113, u 114, u 115, u 116, u 117, u 118, u 119, u 120, u 121, u 122, u 123, u 124, u 125, u 126, u 127, u 128, u 129, u 130, u 131, u 132, u 133, u 134, u 135, u 136, u 137, u 138, u 139, u 140, u 141, u 142, u 143, u 144, u 145, u 146, u 147, u 148, u 149, u 150, u 151, u 152, u 153, u 154, u 155, u 156, u 157, u 158, u 159, u 160, u 161, u 162, u 163, u 164, u 165, u 166, u 167, u 168, u 169, u 170, u 171, u 172, u 173, u 174, u 175, u 176, u 177, u 178, u 179, u 180, u 181, u 182, u 183, u 184, u 185, u 186, u 187, u 188, u 189, u 190, u 191, u 192, u 193, u 194, u 195, u 196, u 197, u 198, u 199, u 200, u 201, u 202, u 203, u 204, u 205, u 206, u 207, u 208], []⟩ := by
  obtain ⟨hd, hs, h1, h3, h7⟩ := h
  refine ⟨fun n => c.tmps.getD n undef, ?_⟩
  obtain ⟨t, d⟩ := c
  simp only at hd hs h1 h3 h7 ⊢
  subst hd
  congr 1
  refine (arr_litRc t hs).trans ?_
  rw [lit_allRc]
  simp only [h1, h3, h7]
structure RcB2 (q : Nat) (a : Option Addr) (n e i : Nat) (S : Nat) (b : Option Addr) (m f k : Nat) (c : Act) : Prop where
  df : c.defers = []
  sz : c.tmps.size = 209
  s1 : c.tmps.getD 1 undef = .pointer (some ⟨q, 0, none⟩)
  s3 : c.tmps.getD 3 undef = .slice a n e
  s7 : c.tmps.getD 7 undef = .int .i64 i
  s8 : c.tmps.getD 8 undef = .pointer (some ⟨S, 0, none⟩)
  s9 : c.tmps.getD 9 undef = .slice b m f
  s10 : c.tmps.getD 10 undef = .int .i64 k
set_option maxRecDepth 100000 in
theorem RcB2.lit {q : Nat} {a : Option Addr} {n e i : Nat} {S : Nat} {b : Option Addr} {m f k : Nat} {c : Act} (h : RcB2 q a n e i S b m f k c) : ∃ u : Nat → Value, c = ⟨#[u 0, .pointer (some ⟨q, 0, none⟩), u 2, .slice a n e, u 4, u 5, u 6, .int .i64 i, .pointer (some ⟨S, 0, none⟩), .slice b m f, .int .i64 k, u 11, u 12, u 13, u 14, u 15, u 16, u 17, u 18, u 19, u 20, u 21, u 22, u 23, u 24, u 25, u 26, u 27, u 28, u 29, u 30, u 31, u 32, u 33, u 34, u 35, u 36, u 37, u 38, u 39, u 40, u 41, u 42, u 43, u 44, u 45, u 46, u 47, u 48, u 49, u 50, u 51, u 52, u 53, u 54, u 55, u 56, u 57, u 58, u 59, u 60, u 61, u 62, u 63, u 64, u 65, u 66, u 67, u 68, u 69, u 70, u 71, u 72, u 73, u 74, u 75, u 76, u 77, u 78, u 79, u 80, u 81, u 82, u 83, u 84, u 85, u 86, u 87, u 88, u 89, u 90, u 91, u 92, u 93, u 94, u 95, u 96, u 97, u 98, u 99, u 100, u 101, u 102, u 103, u 104, u 105, u 106, u 107, u 108, u 109, u 110, u 111, u 112, u 113, u 114, u 115, u 116, u 117, u 118, u 119, u 120, u 121, u 122, u 123, u 124, u 125, u 126, u 127, u 128, u 129, u 130, u 131, u 132, u 133, u 134, u 135, u 136, u 137, u 138, u 139, u 140, u 141, u 142, u 143, u 144, u 145, u 146, u 147, u 148, u 149, u 150, u 151, u 152, u 153, u 154, u 155, u 156, u 157, u 158, u 159, u 160, u 161, u 162, u 163, u 164, u 165, u 166, u 167, u 168, u 169, u 170, u 171, u 172, u 173, u 174, u 175, u 176, u 177, u 178, u 179, u 180, u 181, u 182, u 183, u 184, u 185, u 186, u 187, u 188, u 189, u 190, u 191, u 192, u 193, u 194, u 195, u 196, u 197, u 198, u 199, u 200, u 201, u 202, u 203, u 204, u 205, u 206, u 207, u 208], []⟩ := by
  obtain ⟨hd, hs, h1, h3, h7, h8, h9, h10⟩ := h
  refine ⟨fun n => c.tmps.getD n undef, ?_⟩
  obtain ⟨t, d⟩ := c
  simp only at hd hs h1 h3 h7 h8 h9 h10 ⊢
  subst hd
  congr 1
  refine (arr_litRc t hs).trans ?_
  rw [lit_allRc]
  simp only [h1, h3, h7, h8, h9, h10]
structure RcC (q : Nat) (a : Option Addr) (n e i : Nat) (c : Act) : Prop where
  df : c.defers = []
  sz : c.tmps.size = 209
  s1 : c.tmps.getD 1 undef = .pointer (some ⟨q, 0, none⟩)
  s3 : c.tmps.getD 3 undef = .slice a n e
  s12 : c.tmps.getD 12 undef = .int .i64 i
set_option maxRecDepth 100000 in
theorem RcC.lit {q : Nat} {a : Option Addr} {n e i : Nat} {c : Act} (h : RcC q a n e i c) : ∃ u : Nat → Value, c = ⟨#[u 0, .pointer (some ⟨q, 0, none⟩), u 2, .slice a n e, u 4, u 5, u 6, u 7, u 8, u 9, u 10, u 11, .int .i64 i, u 13, u 14, u 15, u 16, u 17, u 18, u 19, u 20, u 21, u 22, u 23, u 24, u 25, u 26, u 27, u 28, u 29, u 30, u 31, u 32, u 33, u 34, u 35, u 36, u 37, u 38, u 39, u 40, u 41, u 42, u 43, u 44, u 45, u 46, u 47, u 48, u 49, u 50, u 51, u 52, u 53, u 54, u 55, u 56, u 57, u 58, u 59, u 60, u 61, u 62, u 63, u 64, u 65, u 66, u 67, u 68, u 69, u 70, u 71, u 72, u 73, u 74, u 75, u 76, u 77, u 78, u 79, u 80, u 81, u 82, u 83, u 84, u 85, u 86, u 87, u 88, u 89, u 90, u 91, u 92, u 93, u 94, u 95, u 96, u 97, u 98, u 99, u 100, u 101, u 102, u 103, u 104, u 105, u 106, u 107, u 108, u 109, u 110, u 111, u 112, u 113, u 114, u 115, u 116, u 117, u 118, u 119, u 120, u 121, u 122, u 123, u 124, u 125, u 126, u 127, u 128, u 129, u 130, u 131, u 132, u 133, u 134, u 135, u 136, u 137, u 138, u 139, u 140, u 141, u 142, u 143, u 144, u 145, u 146, u 147, u 148, u 149, u 150, u 151, u 152, u 153, u 154, u 155, u 156, u 157, u 158, u 159, u 160, u 161, u 162, u 163, u 164, u 165, u 166, u 167, u 168, u 169, u 170, u 171, u 172, u 173, u 174, u 175, u 176, u 177, u 178, u 179, u 180, u 181, u 182, u 183, u 184, u 185, u 186, u 187, u 188, u 189, u 190, u 191, u 192, u 193, u 194, u 195, u 196, u 197, u 198, u 199, u 200, u 201, u 202, u 203, u 204, u 205, u 206, u 207, u 208], []⟩ := by
  obtain ⟨hd, hs, h1, h3, h12⟩ := h
  refine ⟨fun n => c.tmps.getD n undef, ?_⟩
  obtain ⟨t, d⟩ := c
  simp only at hd hs h1 h3 h12 ⊢
  subst hd
  congr 1
  refine (arr_litRc t hs).trans ?_
  rw [lit_allRc]
  simp only [h1, h3, h12]
structure RcR (r : Bool) (c : Act) : Prop where
  df : c.defers = []
  sz : c.tmps.size = 209
  s2 : c.tmps.getD 2 undef = .bool r
set_option maxRecDepth 100000 in
theorem RcR.lit {r : Bool} {c : Act} (h : RcR r c) : ∃ u : Nat → Value, c = ⟨#[u 0, u 1, .bool r, u 3, u 4, u 5, u 6, u 7, u 8, u 9, u 10, u 11, u 12, u 13, u 14, u 15, u 16, u 17, u 18, u 19, u 20, u 21, u 22, u 23, u 24, u 25, u 26, u 27, u 28, u 29, u 30, u 31, u 32, u 33, u 34, u 35, u 36, u 37, u 38, u 39, u 40, u 41, u 42, u 43, u 44, u 45, u 46, u 47, u 48, u 49, u 50, u 51, u 52, u 53, u 54, u 55, u 56, u 57, u 58, u 59, u 60, u 61, u 62, u 63, u 64, u 65, u 66, u 67, u 68, u 69, u 70, u 71, u 72, u 73, u 74, u 75, u 76, u 77, u 78, u 79, u 80, u 81, u 82, u 83, u 84, u 85, u 86, u 87, u 88, u 89, u 90, u 91, u 92, u 93, u 94, u 95, u 96, u 97, u 98, u 99, u 100, u 101, u 102, u 103, u 104, u 105, u 106, u 107, u 108, u 109, u 110, u 111, u 112, u 113, u 114, u 115, u 116, u 117, u 118, u 119, u 120, u 121, u 122, u 123, u 124, u 125, u 126, u 127, u 128, u 129, u 130, u 131, u 132, u 133, u 134, u 135, u 136, u 137, u 138, u 139, u 140, u 141, u 142, u 143, u 144, u 145, u 146, u 147, u 148, u 149, u 150, u 151, u 152, u 153, u 154, u 155, u 156, u 157, u 158, u 159, u 160, u 161, u 162, u 163, u 164, u 165, u 166, u 167, u 168, u 169, u 170, u 171, u 172, u 173, u 174, u 175, u 176, u 177, u 178, u 179, u 180, u 181, u 182, u 183, u 184, u 185, u 186, u 187, u 188, u 189, u 190, u 191, u 192, u 193, u 194, u 195, u 196, u 197, u 198, u 199, u 200, u 201, u 202, u 203, u 204, u 205, u 206, u 207, u 208], []⟩ := by
  obtain ⟨hd, hs, h2⟩ := h
  refine ⟨fun n => c.tmps.getD n undef, ?_⟩
  obtain ⟨t, d⟩ := c
  simp only at hd hs h2 ⊢
  subst hd
  congr 1
  refine (arr_litRc t hs).trans ?_
  rw [lit_allRc]
  simp only [h2]
end Go.Proofs.YtdlfndjgncdgfaaGreatDoor
namespace Go.Proofs.YtdlfndjgncdgfaaGreatDoor
open Go.ChangeShapes Go.WideShapes Go.ChangeAt Go.RowKit Go.Shelf

def rcCho (c : SCho) : Bool := decide (1 ≤ c.names.length ∧ c.names.length ≤ 32) && (decide (dup c.names = none) && c.names.all namedB)
def rcFld (ns : Nat) (es : List SCho) (f : CFld) : Bool := decide (1 ≤ f.name.size ∧ f.name.size ≤ 40) && (aloneB (quoteB f.name) 3 f.name && tdB ns es f.kind f.ref f.lists f.dflt)
def rcRec (ns : Nat) (es : List SCho) (r : CRec) : Bool := decide (1 ≤ r.fields.length ∧ r.fields.length ≤ 16) && (r.fields.all (rcFld ns es) && decide (dup (r.fields.map CFld.name) = none))
def rcHead (s : ByteArray) : Bool := decide (s.size ≤ 40) && (!takenB [] s && aloneB s 1 s)
def rcB (S : CSch) : Bool :=
  if ¬ (1 ≤ S.structs.length ∧ S.structs.length ≤ 16) ∨ 8 < S.enums.length ∨ ¬ (0 ≤ S.root ∧ S.root < (S.structs.length : Int)) then false else
    S.enums.all rcCho && (S.structs.all (rcRec S.structs.length S.enums) && ((namesC S.structs S.enums).all rcHead && decide (dup (namesC S.structs S.enums) = none)))
theorem rcHead_eq (s : ByteArray) : rcHead s = freeB s := by
  unfold rcHead freeB namedB
  have h1 : takenB [] s = (lookN basicN s).isSome := by
    rw [lookN_has]
    unfold takenB basicS
    show (_ || false) = _
    rw [Bool.or_false]
  rw [h1, Bool.and_assoc, Bool.and_comm (!_)]
theorem rcCho_eq (c : SCho) : rcCho c = choiceB c := by
  unfold rcCho choiceB
  rw [Bool.and_comm (decide (dup c.names = none))]
theorem rcFld_eq (ns : Nat) (es : List SCho) (f : CFld) : rcFld ns es f = fieldB ns es f := by
  unfold rcFld fieldB labelB tdB
  by_cases h1 : 0 < f.name.size
  · by_cases h2 : f.name.size ≤ 40
    · rw [decide_eq_true (show 1 ≤ f.name.size ∧ f.name.size ≤ 40 from ⟨h1, h2⟩), decide_eq_true h1, decide_eq_true h2]
      simp
    · rw [decide_eq_false (fun h => h2 h.2), decide_eq_false h2]
      simp
  · rw [decide_eq_false (fun h => h1 h.1), decide_eq_false h1]
    simp
theorem rcB_eq (S : CSch) : rcB S = checkB S := by
  unfold rcB checkB
  rw [show rcCho = choiceB from funext rcCho_eq, show rcHead = freeB from funext rcHead_eq]
  have h : rcRec S.structs.length S.enums = recordB S.structs.length S.enums := by
    funext r
    unfold rcRec recordB
    rw [show rcFld S.structs.length S.enums = fieldB S.structs.length S.enums from funext (rcFld_eq _ _)]
  rw [h]
  split
  · rfl
  · cases S.enums.all choiceB <;> cases S.structs.all (recordB S.structs.length S.enums) <;> cases (namesC S.structs S.enums).all freeB <;> cases decide (dup (namesC S.structs S.enums) = none) <;> rfl
end Go.Proofs.YtdlfndjgncdgfaaGreatDoor
namespace Go.Proofs.YtdlfndjgncdgfaaGreatDoor
open Go.ChangeShapes Go.WideShapes Go.ChangeAt Go.RowKit Go.Shelf

set_option maxRecDepth 100000 in
set_option maxHeartbeats 4000000 in
theorem rca2_wp {Q : Exit → Act → World → Prop} {c : Act} {w0 : World} {q n e i E nc rb : Nat} {a na : Option Addr} {nm : Value} {l : List ByteArray} (hc : RcA2 q a n e i E 0 c)
    (hE : w0.heap[E]? = some (.cells #[nm, .slice na l.length nc] 57 (0, 0))) (hrow : w0.ownsRow rb 9 1 (.slice na l.length nc) l.length (strsCells l)) (hT : Tabs w0) (hs : ∀ s ∈ l, s.size ≤ 281474976710656)
    (hQ : ∀ c' w', l.all namedB = true → RcA2 q a n e i E l.length c' → Below w0.heap.size w0 w' → Q (.exit 2) c' w')
    (hB : ∀ c' w', l.all namedB = false → RcR false c' → Below w0.heap.size w0 w' → Q .ret c' w') :
    Code.wp Tryz.prog (Code.loop (loopsRc 1)) Q c w0 := by
  refine wp_loop (fun c' w' => ∃ k : Nat, k ≤ l.length ∧ RcA2 q a n e i E k c' ∧ Below w0.heap.size w0 w' ∧ (l.take k).all namedB = true) (fun c' _ => l.length - (intOf (c'.tmps.getD 6 undef)).toNat) ⟨0, Nat.zero_le _, hc, Below.refl _ _, rfl⟩ ?_
  clear hc
  rintro c wr ⟨k, hk, hc, hb, ha⟩
  have HQ := Lib.hid hQ
  have HBAD := Lib.hid hB
  have HB := Lib.hid hb
  have HEB := Lib.hid (blk_below hE hb (blk_lt hE))
  have HROW := Lib.hid (row_keep hb hrow)
  have HT := Lib.hid (hT.below (Nat.le_refl _) hb)
  have hfew := row_few hrow
  obtain ⟨u, rfl⟩ := hc.lit
  obtain ⟨hEl, z0, z1, _⟩ := blk2 HEB.out
  have HS := Lib.hid hs
  have HA := Lib.hid ha
  clear hc hQ hB hb hE hrow hT hs ha
  conv => arg 2; whnf
  by_cases hlt : k < l.length
  · obtain ⟨g, cc, hv, hcc, hg, hcell⟩ := row_el strCells 1 (fun _ => rfl) HROW.out k hlt
    obtain ⟨rfl, rfl⟩ := slice_inj hv
    have x0 : wr.cell? ⟨g, k, none⟩ = some (.string l[k]) := by have := hcell 0 (by omega); rw [Nat.mul_one, Nat.add_zero] at this; exact this
    have hgl : g < wr.heap.size := (ownsRow_lt HROW.out g rfl).2
    have hki : (k : Int) < l.length := by omega
    have HT1 := Lib.hid (all_take namedB l k hlt)
    have HT2 := Lib.hid (all_false namedB l k hlt)
    have hsz := HS.out l[k] (List.getElem_mem hlt)
    have HNM : Hid (namedB l[k] = (decide (l[k].size ≤ 40) && aloneB l[k] 1 l[k])) := Lib.hid rfl
    have HC := Lib.hid (fun W (hb : Below wr.heap.size wr W) => rone_any l[k] 1 l[k] W (HT.out.below (Nat.le_refl _) hb) (Nat.le_trans hsz (by decide)))
    generalize l[k] = s at *
    clear hv hcell
    by_cases hl : s.size ≤ 40
    · have HN2 := Lib.hid (HNM.out.trans (by rw [decide_eq_true hl, Bool.true_and]))
      have hd : decide ((40 : Int) < (s.size : Int)) = false := decide_eq_false (by omega)
      go_upto_region 14 with (fail)
      go_region_held3 (fun w' => w'.cell? ⟨E, 1, none⟩ = some (.slice (some ⟨g, 0, none⟩) l.length nc) ∧ w'.cell? ⟨g, k, none⟩ = some (.string s)) (first | assumption | (with_reducible exact ⟨k1, k2⟩) | go_keep) (first | (go_at_call 37; (first | (with_reducible refine (HC.out wr (Below.refl _ _)).mono ?_) | (with_reducible refine (HC.out wr.drew (Below.refl _ _).drew).mono ?_)); rintro e W3 ⟨rfl, hb3⟩; have hx3 : Below wr.heap.size wr W3 := (by first | exact (Below.refl _ wr).drew.trans hb3 | exact hb3); clear hb3; have k1 := (hx3.cell (p := ⟨E, 1, none⟩) hEl).trans z1; have k2 := (hx3.cell (p := ⟨g, k, none⟩) hgl).trans x0))
      all_goals
        have HX3 := Lib.hid (HB.out.trans (hx3.mono HB.out.size))
        clear hx3 k1 k2 x0 z0 z1
        simp only [Exit.then]
        apply_assumption
        cases hal : aloneB s 1 s
        · have HE := Lib.hid (HT2.out (HN2.out.trans hal))
          clear hal HN2 HT1 HT2 HC
          go_wp2
          exact HBAD.out _ _ HE.out ⟨rfl, rfl, rfl⟩ (by first | exact HX3.out | exact HX3.out.drew)
        · have HE := Lib.hid (show (l.take (k + 1)).all namedB = true by rw [HT1.out, HA.out, HN2.out, hal]; rfl)
          clear hal HN2 HT1 HT2 HC
          go_wp2
          refine ⟨⟨k + 1, by omega, ⟨rfl, rfl, rfl, rfl, rfl, rfl, rfl⟩, by first | exact HX3.out | exact HX3.out.drew, HE.out⟩, ?_⟩
          show l.length - (intOf (.int .i64 ((k : Int) + 1))).toNat < l.length - (intOf (.int .i64 (k : Int))).toNat
          simp [intOf]; omega
    · have HE := Lib.hid (HT2.out (HNM.out.trans (by rw [decide_eq_false hl, Bool.false_and])))
      have hd : decide ((40 : Int) < (s.size : Int)) = true := decide_eq_true (by omega)
      clear hl HNM HT1 HT2 HC
      go_wp2_with fail
      go_quiet (fail)
      go_wp2
      exact HBAD.out _ _ HE.out ⟨rfl, rfl, rfl⟩ (bel_drewN HB.out _)
  · obtain rfl : k = l.length := by omega
    have HE := Lib.hid (show l.all namedB = true by have h := HA.out; rw [List.take_length] at h; exact h)
    clear hlt HA
    go_wp2
    exact HQ.out _ _ HE.out ⟨rfl, rfl, rfl, rfl, rfl, rfl, rfl⟩ HB.out
end Go.Proofs.YtdlfndjgncdgfaaGreatDoor
namespace Go.Proofs.YtdlfndjgncdgfaaGreatDoor
open Go.ChangeShapes Go.WideShapes Go.ChangeAt Go.RowKit Go.Shelf

theorem row_app {B : Nat} {w0 wr W2 W8 : World} {e : TypeId} {sz n : Nat} {nv : Value} {xs : List Value} (hb : Below B w0 wr) (hB : B ≤ wr.heap.size) (hrow : wr.ownsRow B e sz nv n xs) (h2 : Below wr.heap.size wr W2) (hg : W2.grownBy W8 nv.ownBlock) : Below B w0 W8 :=
  (hb.trans (h2.mono hB)).grown hg (by have := h2.size; omega) (fun k hk => (ownsRow_lt hrow k hk).1)
set_option maxRecDepth 100000 in
set_option maxHeartbeats 8000000 in
theorem rca_wp {Q : Exit → Act → World → Prop} {c : Act} {w0 : World} {q sc ec base : Nat} {sa ea : Option Addr} {ss : List (CRec × Value)} {es : List (SCho × Value)} {rt : Int} (hc : RcA q none 0 0 0 c)
    (hq : w0.heap[q]? = some (.cells #[.slice sa ss.length sc, .slice ea es.length ec, .int .i64 rt] 30 (0, 0))) (hC : CRows base w0 ss es (.slice sa ss.length sc) (.slice ea es.length ec)) (hT : Tabs w0) (h8 : es.length ≤ 8)
    (hs : ∀ p ∈ es, ∀ s ∈ p.1.names, s.size ≤ 281474976710656)
    (hQ : ∀ c' w' a e, es.all (fun p => rcCho p.1) = true → RcA q a es.length e es.length c' → Below w0.heap.size w0 w' → w'.ownsRow w0.heap.size 9 1 (.slice a es.length e) es.length (strsCells (es.map fun p => p.1.name)) → Q (.exit 0) c' w')
    (hB : ∀ c' w', es.all (fun p => rcCho p.1) = false → RcR false c' → Below w0.heap.size w0 w' → Q .ret c' w') :
    Code.wp Tryz.prog (Code.loop (loopsRc 0)) Q c w0 := by
  refine wp_loop (fun c' w' => ∃ (i e : Nat) (a : Option Addr), i ≤ es.length ∧ RcA q a i e i c' ∧ Below w0.heap.size w0 w' ∧ w'.ownsRow w0.heap.size 9 1 (.slice a i e) i (strsCells ((es.take i).map fun p => p.1.name)) ∧ (es.take i).all (fun p => rcCho p.1) = true)
    (fun c' _ => es.length - (intOf (c'.tmps.getD 4 undef)).toNat) ⟨0, 0, none, Nat.zero_le _, hc, Below.refl _ _, World.ownsRow_nil _ _ _ _, rfl⟩ ?_
  clear hc
  rintro c wr ⟨i, e, a, hi, hc, hb, hU, ha⟩
  have HQ := Lib.hid hQ
  have HBAD := Lib.hid hB
  have HB := Lib.hid hb
  have HK := Lib.hid (blk_below hq hb (blk_lt hq))
  have HC := Lib.hid (hC.below hb)
  have HT := Lib.hid hT
  have HC0 := Lib.hid hC
  have HU := Lib.hid hU
  have HS := Lib.hid hs
  have HA := Lib.hid ha
  have hql : q < w0.heap.size := blk_lt hq
  have hsz := hb.size
  obtain ⟨u, rfl⟩ := hc.lit
  obtain ⟨_, p0, p1, p2, _⟩ := blk3 HK.out
  clear hc hQ hB hb hq hC hT hs hU ha
  conv => arg 2; whnf
  by_cases hlt : i < es.length
  · obtain ⟨g, cc, hv, hcc, hg, hcell⟩ := row_el schoCells 2 (fun _ => rfl) HC.out.enums i hlt
    obtain ⟨rfl, rfl⟩ := slice_inj hv
    have hnm := HC0.out.names _ (List.getElem_mem hlt)
    obtain ⟨na, nc, hnv⟩ := ownsRow_form hnm
    rw [hnv] at hnm
    have HN := Lib.hid hnm
    have hfn := row_few hnm
    have x0 : wr.cell? ⟨g, i * 2, none⟩ = some (.string es[i].1.name) := hcell 0 (by omega)
    have x1 : wr.cell? ⟨g, i * 2 + 1, none⟩ = some (.slice na es[i].1.names.length nc) := by rw [← hnv]; exact hcell 1 (by omega)
    have HTK := Lib.hid (take_snoc_map (fun p : SCho × Value => p.1.name) es i hlt)
    have HT1 := Lib.hid (all_take (fun p : SCho × Value => rcCho p.1) es i hlt)
    have HT2 := Lib.hid (all_false (fun p : SCho × Value => rcCho p.1) es i hlt)
    have HSI := Lib.hid (HS.out es[i] (List.getElem_mem hlt))
    have HN1 : Hid (rcCho es[i].1 = (decide (1 ≤ es[i].1.names.length ∧ es[i].1.names.length ≤ 32) && (decide (dup es[i].1.names = none) && es[i].1.names.all namedB))) := Lib.hid rfl
    generalize es[i].1 = d at *
    obtain ⟨nm, l⟩ := d
    simp only at *
    have hii : (i : Int) < es.length := by omega
    clear hv hcell hnm hnv
    have hbt : Below wr.heap.size wr (wr.alloc (.cells #[.string nm, .slice na l.length nc] 57)) := (Below.refl _ _).alloc (Nat.le_refl _) _
    have HBT := Lib.hid hbt
    have HE := Lib.hid (heap_alloc_new wr (.cells #[.string nm, .slice na l.length nc] 57))
    clear hbt
    go_upto_region 8 with (fail)
    generalize wr.alloc (.cells #[.string nm, .slice na l.length nc] 57) = Wt at *
    clear x0 x1 p0 p1 p2
    obtain ⟨_, y0, y1, _⟩ := blk2 HE.out
    have hnt : wr.heap.size < Wt.heap.size := blk_lt HE.out
    obtain ⟨i0, hi0, hzz0, hzz1, hzz2⟩ := info_parts str_info
    have I1 := Lib.hid hi0
    have I2 := Lib.hid hzz0
    have I3 := Lib.hid hzz1
    have I4 := Lib.hid hzz2
    have HBN := Lib.hid (heap_alloc_new Wt (.cells #[.string nm] 9))
    have HBA := Lib.hid (HBT.out.trans ((Below.refl Wt.heap.size Wt).alloc (Nat.le_refl _) (.cells #[.string nm] 9) |>.mono HBT.out.size))
    have HUA := Lib.hid (row_keep HBA.out HU.out)
    clear hi0 hzz0 hzz1 hzz2
    go_upto_region 9 with (at_builtin; refine wpList_append_own _ rfl (.tmp 54) (.tmp 57) 55 rfl w0.heap.size 9 i0 _ 1 16 Tryz.underlying55 I1.out I2.out I3.out I4.out rfl (by decide) (.slice a i e) i (strsCells ((es.take i).map fun p => p.1.name)) rfl HUA.out _ 1 1 [.string nm] rfl rfl (World.news_of_block HBN.out) (by intro u hu; simp at hu; subst hu; rfl) (by unfold maxLen; omega) (by omega) (by simp; omega) ?_; intro v4 W8 hown4 hg4 hx; clear hx; obtain ⟨a4, e4, rfl⟩ := ownsRow_form hown4; have s1 := row_app HB.out hsz HU.out HBA.out hg4; have s2 : W8.heap[wr.heap.size]? = some (.cells #[.string nm, .slice na l.length nc] 57 (0, 0)) := (hg4.block wr.heap.size (by have := blk_lt HE.out; simp; omega) (fun e => by have := (ownsRow_lt HU.out _ e.symm).2; omega)).trans (blk_alloc HE.out _); have S1 := Lib.hid s1; have S2 := Lib.hid s2; have S3 := Lib.hid hown4; obtain ⟨_, b0, b1, _⟩ := blk2 s2; clear s1 s2 hown4 hg4)
    clear y0 y1 HBN
    by_cases hn1 : l.length < 1
    · have HF := Lib.hid (HT2.out (HN1.out.trans (by rw [decide_eq_false (by omega), Bool.false_and])))
      have g1 : (l.length : Int) < 1 := by omega
      clear HN1 HT1 HT2
      go_wp2
      exact HBAD.out _ _ HF.out ⟨rfl, rfl, rfl⟩ S1.out
    have g1 : ¬ (l.length : Int) < 1 := by omega
    by_cases hn2 : 32 < l.length
    · have HF := Lib.hid (HT2.out (HN1.out.trans (by rw [decide_eq_false (by omega), Bool.false_and])))
      have g2 : (32 : Int) < (l.length : Int) := by omega
      clear HN1 HT1 HT2
      go_wp2
      exact HBAD.out _ _ HF.out ⟨rfl, rfl, rfl⟩ S1.out
    have g2 : ¬ (32 : Int) < (l.length : Int) := by omega
    have HN2 := Lib.hid (HN1.out.trans (by rw [decide_eq_true (show 1 ≤ l.length ∧ l.length ≤ 32 by omega), Bool.true_and]))
    clear HN1
    go_wp2_with fail
    refine (runlike_any l _ _ W8 (row_keep S1.out HN.out)).mono ?_
    rintro ee W9 ⟨rfl, hb9⟩
    have HE9 := Lib.hid (blk_below S2.out hb9 (blk_lt S2.out))
    have HB9 := Lib.hid (S1.out.trans (hb9.mono S1.out.size))
    have HU9 := Lib.hid (row_keep hb9 S3.out)
    clear hb9 b0 b1
    obtain ⟨_, b0, b1, _⟩ := blk2 HE9.out
    by_cases hd : dup l = none
    rotate_left
    · have HF := Lib.hid (HT2.out (HN2.out.trans (by rw [decide_eq_false hd, Bool.false_and])))
      rw [decide_eq_false hd]
      clear HN2 HT1 HT2 hd
      go_wp2
      exact HBAD.out _ _ HF.out ⟨rfl, rfl, rfl⟩ HB9.out
    have HN3 := Lib.hid (HN2.out.trans (by rw [decide_eq_true hd, Bool.true_and]))
    rw [decide_eq_true hd]
    clear HN2 hd
    go_wp2_with fail
    refine rca2_wp ⟨rfl, rfl, rfl, rfl, rfl, rfl, rfl⟩ HE9.out (row_keep HB9.out HN.out) (HT.out.below (Nat.le_refl _) HB9.out) HSI.out ?_ ?_
    · intro c2 w2 hall hc2 hb2
      have HF := Lib.hid (show (es.take (i + 1)).all (fun p => rcCho p.1) = true by rw [HT1.out, HA.out]; exact HN3.out.trans hall)
      have HB2 := Lib.hid (HB9.out.trans (hb2.mono HB9.out.size))
      have HU2 := Lib.hid (row_keep hb2 HU9.out)
      obtain ⟨u2, rfl⟩ := hc2.lit
      clear hc2 hb2 hall b0 b1
      simp only [Exit.inBlock, Exit.then]
      apply_assumption
      go_wp2
      refine ⟨⟨i + 1, e4, a4, by omega, ⟨rfl, rfl, rfl, rfl, rfl⟩, HB2.out, ?_, HF.out⟩, ?_⟩
      · rw [HTK.out, strsCells_snoc]
        exact HU2.out
      · show es.length - (intOf (.int .i64 ((i : Int) + 1))).toNat < es.length - (intOf (.int .i64 (i : Int))).toNat
        simp [intOf]; omega
    · intro c2 w2 hall hc2 hb2
      have HF := Lib.hid (HT2.out (HN3.out.trans hall))
      simp only [Exit.inBlock, Exit.then]
      exact HBAD.out _ _ HF.out hc2 (HB9.out.trans (hb2.mono HB9.out.size))
  · obtain rfl : i = es.length := by omega
    have HE := Lib.hid (show es.all (fun p => rcCho p.1) = true by have h := HA.out; rw [List.take_length] at h; exact h)
    have hu := HU.out
    rw [List.take_length] at hu
    have HU2 := Lib.hid hu
    clear hlt HA hu HU
    go_wp2
    exact HQ.out _ _ _ _ HE.out ⟨rfl, rfl, rfl, rfl, rfl⟩ HB.out HU2.out
end Go.Proofs.YtdlfndjgncdgfaaGreatDoor
