/-
  The hand's Made: what its loops keep in memory; the loop over an enum's values. Conditions: those that each theorem names.
-/
import Derived.Test.YtiknhkkeifemcaaGreatDoorPkN13
import Derived.Deep.Cut
import Derived.Deep.AppendLies
import Derived.OwnWalk
namespace Go.Proofs.YtiknhkkeifemcaaGreatDoor
open Go.ChangeShapes Go.WideShapes Go.ChangeAt Go.RowKit

def loopsOf : Code → List Code
  | .loop c => c :: loopsOf c
  | .seq a b => loopsOf a ++ loopsOf b
  | .block _ c => loopsOf c
  | .scope c => loopsOf c
  | .cond _ a b => loopsOf a ++ loopsOf b
  | _ => []
noncomputable def madeLoop (n : Nat) : Code := ((Tryz.f15.body.map loopsOf).getD []).getD n .skip
theorem arr_lit (t : Array Value) (h : t.size = 241) : t = ((List.range 241).map fun n => t.getD n undef).toArray := by
  apply Array.ext'
  apply List.ext_getElem?
  intro i
  by_cases hi : i < 241
  · have h' : i < t.size := by omega
    simp [hi, h', Array.getD]
  · have h' : ¬ i < t.size := by omega
    simp [hi, h']
set_option maxRecDepth 100000 in
theorem lit_all (u : Nat → Value) : ((List.range 241).map u).toArray = #[u 0, u 1, u 2, u 3, u 4, u 5, u 6, u 7, u 8, u 9, u 10, u 11, u 12, u 13, u 14, u 15, u 16, u 17, u 18, u 19, u 20, u 21, u 22, u 23, u 24, u 25, u 26, u 27, u 28, u 29, u 30, u 31, u 32, u 33, u 34, u 35, u 36, u 37, u 38, u 39, u 40, u 41, u 42, u 43, u 44, u 45, u 46, u 47, u 48, u 49, u 50, u 51, u 52, u 53, u 54, u 55, u 56, u 57, u 58, u 59, u 60, u 61, u 62, u 63, u 64, u 65, u 66, u 67, u 68, u 69, u 70, u 71, u 72, u 73, u 74, u 75, u 76, u 77, u 78, u 79, u 80, u 81, u 82, u 83, u 84, u 85, u 86, u 87, u 88, u 89, u 90, u 91, u 92, u 93, u 94, u 95, u 96, u 97, u 98, u 99, u 100, u 101, u 102, u 103, u 104, u 105, u 106, u 107, u 108, u 109, u 110, u 111, u 112, u 113, u 114, u 115, u 116, u 117, u 118, u 119, u 120, u 121, u 122, u 123, u 124, u 125, u 126, u 127, u 128, u 129, u 130, u 131, u 132, u 133, u 134, u 135, u 136, u 137, u 138, u 139, u 140, u 141, u 142, u 143, u 144, u 145, u 146, u 147, u 148, u 149, u 150, u 151, u 152, u 153, u 154, u 155, u 156, u 157, u 158, u 159, u 160, u 161, u 162, u 163, u 164, u 165, u 166, u 167, u 168, u 169, u 170, u 171, u 172, u 173, u 174, u 175, u 176, u 177, u 178, u 179, u 180, u 181, u 182, u 183, u 184, u 185, u 186, u 187, u 188, u 189, u 190, u 191, u 192, u 193, u 194, u 195, u 196, u 197, u 198, u 199, u 200, u 201, u 202, u 203, u 204, u 205, u 206, u 207, u 208, u 209, u 210, u 211, u 212, u 213, u 214, u 215, u 216, u 217, u 218, u 219, u 220, u 221, u 222, u 223, u 224, u 225, u 226, u 227, u 228, u 229, u 230, u 231, u 232, u 233, u 234, u 235, u 236, u 237, u 238, u 239, u 240] := rfl
structure FrA (b i : Nat) (c : Act) : Prop where
  df : c.defers = []
  sz : c.tmps.size = 241
  s1 : c.tmps.getD 1 undef = .pointer (some ⟨b, 0, none⟩)
  s2 : c.tmps.getD 2 undef = .pointer (some ⟨b + 1, 0, none⟩)
  s3 : c.tmps.getD 3 undef = .bool false
  s4 : c.tmps.getD 4 undef = .pointer (some ⟨b + 2, 0, none⟩)
  s5 : c.tmps.getD 5 undef = .int .i64 i
set_option maxRecDepth 100000 in
theorem fra_lit {b i : Nat} {c : Act} (h : FrA b i c) : ∃ u : Nat → Value, c = ⟨#[u 0, .pointer (some ⟨b, 0, none⟩), .pointer (some ⟨b + 1, 0, none⟩), .bool false, .pointer (some ⟨b + 2, 0, none⟩), .int .i64 i, u 6, u 7, u 8, u 9, u 10, u 11, u 12, u 13, u 14, u 15, u 16, u 17, u 18, u 19, u 20, u 21, u 22, u 23, u 24, u 25, u 26, u 27, u 28, u 29, u 30, u 31, u 32, u 33, u 34, u 35, u 36, u 37, u 38, u 39, u 40, u 41, u 42, u 43, u 44, u 45, u 46, u 47, u 48, u 49, u 50, u 51, u 52, u 53, u 54, u 55, u 56, u 57, u 58, u 59, u 60, u 61, u 62, u 63, u 64, u 65, u 66, u 67, u 68, u 69, u 70, u 71, u 72, u 73, u 74, u 75, u 76, u 77, u 78, u 79, u 80, u 81, u 82, u 83, u 84, u 85, u 86, u 87, u 88, u 89, u 90, u 91, u 92, u 93, u 94, u 95, u 96, u 97, u 98, u 99, u 100, u 101, u 102, u 103, u 104, u 105, u 106, u 107, u 108, u 109, u 110, u 111, u 112, u 113, u 114, u 115, u 116, u 117, u 118, u 119, u 120, u 121, u 122, u 123, u 124, u 125, u 126, u 127, u 128, u 129, u 130, u 131, u 132, u 133, u 134, u 135, u 136, u 137, u 138, u 139, u 140, u 141, u 142, u 143, u 144, u 145, u 146, u 147, u 148, u 149, u 150, u 151, u 152, u 153, u 154, u 155, u 156, u 157, u 158, u 159, u 160, u 161, u 162, u 163, u 164, u 165, u 166, u 167, u 168, u 169, u 170, u 171, u 172, u 173, u 174, u 175, u 176, u 177, u 178, u 179, u 180, u 181, u 182, u 183, u 184, u 185, u 186, u 187, u 188, u 189, u 190, u 191, u 192, u 193, u 194, u 195, u 196, u 197, u 198, u 199, u 200, u 201, u 202, u 203, u 204, u 205, u 206, u 207, u 208, u 209, u 210, u 211, u 212, u 213, u 214, u 215, u 216, u 217, u 218, u 219, u 220, u 221, u 222, u 223, u 224, u 225, u 226, u 227, u 228, u 229, u 230, u 231, u 232, u 233, u 234, u 235, u 236, u 237, u 238, u 239, u 240], []⟩ := by
  obtain ⟨hd, hs, h1, h2, h3, h4, h5⟩ := h
  refine ⟨fun n => c.tmps.getD n undef, ?_⟩
  obtain ⟨t, d⟩ := c
  simp only at hd hs h1 h2 h3 h4 h5 ⊢
  subst hd
  congr 1
  refine (arr_lit t hs).trans ?_
  rw [lit_all]
  simp only [h1, h2, h3, h4, h5]
structure FrB (b i C k : Nat) (c : Act) : Prop where
  df : c.defers = []
  sz : c.tmps.size = 241
  s1 : c.tmps.getD 1 undef = .pointer (some ⟨b, 0, none⟩)
  s2 : c.tmps.getD 2 undef = .pointer (some ⟨b + 1, 0, none⟩)
  s3 : c.tmps.getD 3 undef = .bool false
  s4 : c.tmps.getD 4 undef = .pointer (some ⟨b + 2, 0, none⟩)
  s5 : c.tmps.getD 5 undef = .int .i64 i
  s6 : c.tmps.getD 6 undef = .pointer (some ⟨C, 0, none⟩)
  s7 : c.tmps.getD 7 undef = .int .i64 k
set_option maxRecDepth 100000 in
theorem frb_lit {b i C k : Nat} {c : Act} (h : FrB b i C k c) : ∃ u : Nat → Value, c = ⟨#[u 0, .pointer (some ⟨b, 0, none⟩), .pointer (some ⟨b + 1, 0, none⟩), .bool false, .pointer (some ⟨b + 2, 0, none⟩), .int .i64 i, .pointer (some ⟨C, 0, none⟩), .int .i64 k, u 8, u 9, u 10, u 11, u 12, u 13, u 14, u 15, u 16, u 17, u 18, u 19, u 20, u 21, u 22, u 23, u 24, u 25, u 26, u 27, u 28, u 29, u 30, u 31, u 32, u 33, u 34, u 35, u 36, u 37, u 38, u 39, u 40, u 41, u 42, u 43, u 44, u 45, u 46, u 47, u 48, u 49, u 50, u 51, u 52, u 53, u 54, u 55, u 56, u 57, u 58, u 59, u 60, u 61, u 62, u 63, u 64, u 65, u 66, u 67, u 68, u 69, u 70, u 71, u 72, u 73, u 74, u 75, u 76, u 77, u 78, u 79, u 80, u 81, u 82, u 83, u 84, u 85, u 86, u 87, u 88, u 89, u 90, u 91, u 92, u 93, u 94, u 95, u 96, u 97, u 98, u 99, u 100, u 101, u 102, u 103, u 104, u 105, u 106, u 107, u 108, u 109, u 110, u 111, u 112, u 113, u 114, u 115, u 116, u 117, u 118, u 119, u 120, u 121, u 122, u 123, u 124, u 125, u 126, u 127, u 128, u 129, u 130, u 131, u 132, u 133, u 134, u 135, u 136, u 137, u 138, u 139, u 140, u 141, u 142, u 143, u 144, u 145, u 146, u 147, u 148, u 149, u 150, u 151, u 152, u 153, u 154, u 155, u 156, u 157, u 158, u 159, u 160, u 161, u 162, u 163, u 164, u 165, u 166, u 167, u 168, u 169, u 170, u 171, u 172, u 173, u 174, u 175, u 176, u 177, u 178, u 179, u 180, u 181, u 182, u 183, u 184, u 185, u 186, u 187, u 188, u 189, u 190, u 191, u 192, u 193, u 194, u 195, u 196, u 197, u 198, u 199, u 200, u 201, u 202, u 203, u 204, u 205, u 206, u 207, u 208, u 209, u 210, u 211, u 212, u 213, u 214, u 215, u 216, u 217, u 218, u 219, u 220, u 221, u 222, u 223, u 224, u 225, u 226, u 227, u 228, u 229, u 230, u 231, u 232, u 233, u 234, u 235, u 236, u 237, u 238, u 239, u 240], []⟩ := by
  obtain ⟨hd, hs, h1, h2, h3, h4, h5, h6, h7⟩ := h
  refine ⟨fun n => c.tmps.getD n undef, ?_⟩
  obtain ⟨t, d⟩ := c
  simp only at hd hs h1 h2 h3 h4 h5 h6 h7 ⊢
  subst hd
  congr 1
  refine (arr_lit t hs).trans ?_
  rw [lit_all]
  simp only [h1, h2, h3, h4, h5, h6, h7]
structure FrC (b i : Nat) (c : Act) : Prop where
  df : c.defers = []
  sz : c.tmps.size = 241
  s1 : c.tmps.getD 1 undef = .pointer (some ⟨b, 0, none⟩)
  s2 : c.tmps.getD 2 undef = .pointer (some ⟨b + 1, 0, none⟩)
  s3 : c.tmps.getD 3 undef = .bool false
  s4 : c.tmps.getD 4 undef = .pointer (some ⟨b + 2, 0, none⟩)
  s8 : c.tmps.getD 8 undef = .int .i64 i
set_option maxRecDepth 100000 in
theorem frc_lit {b i : Nat} {c : Act} (h : FrC b i c) : ∃ u : Nat → Value, c = ⟨#[u 0, .pointer (some ⟨b, 0, none⟩), .pointer (some ⟨b + 1, 0, none⟩), .bool false, .pointer (some ⟨b + 2, 0, none⟩), u 5, u 6, u 7, .int .i64 i, u 9, u 10, u 11, u 12, u 13, u 14, u 15, u 16, u 17, u 18, u 19, u 20, u 21, u 22, u 23, u 24, u 25, u 26, u 27, u 28, u 29, u 30, u 31, u 32, u 33, u 34, u 35, u 36, u 37, u 38, u 39, u 40, u 41, u 42, u 43, u 44, u 45, u 46, u 47, u 48, u 49, u 50, u 51, u 52, u 53, u 54, u 55, u 56, u 57, u 58, u 59, u 60, u 61, u 62, u 63, u 64, u 65, u 66, u 67, u 68, u 69, u 70, u 71, u 72, u 73, u 74, u 75, u 76, u 77, u 78, u 79, u 80, u 81, u 82, u 83, u 84, u 85, u 86, u 87, u 88, u 89, u 90, u 91, u 92, u 93, u 94, u 95, u 96, u 97, u 98, u 99, u 100, u 101, u 102, u 103, u 104, u 105, u 106, u 107, u 108, u 109, u 110, u 111, u 112, u 113, u 114, u 115, u 116, u 117, u 118, u 119, u 120, u 121, u 122, u 123, u 124, u 125, u 126, u 127, u 128, u 129, u 130, u 131, u 132, u 133, u 134, u 135, u 136, u 137, u 138, u 139, u 140, u 141, u 142, u 143, u 144, u 145, u 146, u 147, u 148, u 149, u 150, u 151, u 152, u 153, u 154, u 155, u 156, u 157, u 158, u 159, u 160, u 161, u 162, u 163, u 164, u 165, u 166, u 167, u 168, u 169, u 170, u 171, u 172, u 173, u 174, u 175, u 176, u 177, u 178, u 179, u 180, u 181, u 182, u 183, u 184, u 185, u 186, u 187, u 188, u 189, u 190, u 191, u 192, u 193, u 194, u 195, u 196, u 197, u 198, u 199, u 200, u 201, u 202, u 203, u 204, u 205, u 206, u 207, u 208, u 209, u 210, u 211, u 212, u 213, u 214, u 215, u 216, u 217, u 218, u 219, u 220, u 221, u 222, u 223, u 224, u 225, u 226, u 227, u 228, u 229, u 230, u 231, u 232, u 233, u 234, u 235, u 236, u 237, u 238, u 239, u 240], []⟩ := by
  obtain ⟨hd, hs, h1, h2, h3, h4, h8⟩ := h
  refine ⟨fun n => c.tmps.getD n undef, ?_⟩
  obtain ⟨t, d⟩ := c
  simp only at hd hs h1 h2 h3 h4 h8 ⊢
  subst hd
  congr 1
  refine (arr_lit t hs).trans ?_
  rw [lit_all]
  simp only [h1, h2, h3, h4, h8]
structure FrD (b i : Nat) (a : Option Addr) (n c0 R k : Nat) (c : Act) : Prop where
  df : c.defers = []
  sz : c.tmps.size = 241
  s1 : c.tmps.getD 1 undef = .pointer (some ⟨b, 0, none⟩)
  s2 : c.tmps.getD 2 undef = .pointer (some ⟨b + 1, 0, none⟩)
  s3 : c.tmps.getD 3 undef = .bool false
  s4 : c.tmps.getD 4 undef = .pointer (some ⟨b + 2, 0, none⟩)
  s8 : c.tmps.getD 8 undef = .int .i64 i
  s9 : c.tmps.getD 9 undef = .slice a n c0
  s10 : c.tmps.getD 10 undef = .pointer (some ⟨R, 0, none⟩)
  s11 : c.tmps.getD 11 undef = .int .i64 k
set_option maxRecDepth 100000 in
theorem frd_lit {b i : Nat} {a : Option Addr} {n c0 R k : Nat} {c : Act} (h : FrD b i a n c0 R k c) : ∃ u : Nat → Value, c = ⟨#[u 0, .pointer (some ⟨b, 0, none⟩), .pointer (some ⟨b + 1, 0, none⟩), .bool false, .pointer (some ⟨b + 2, 0, none⟩), u 5, u 6, u 7, .int .i64 i, .slice a n c0, .pointer (some ⟨R, 0, none⟩), .int .i64 k, u 12, u 13, u 14, u 15, u 16, u 17, u 18, u 19, u 20, u 21, u 22, u 23, u 24, u 25, u 26, u 27, u 28, u 29, u 30, u 31, u 32, u 33, u 34, u 35, u 36, u 37, u 38, u 39, u 40, u 41, u 42, u 43, u 44, u 45, u 46, u 47, u 48, u 49, u 50, u 51, u 52, u 53, u 54, u 55, u 56, u 57, u 58, u 59, u 60, u 61, u 62, u 63, u 64, u 65, u 66, u 67, u 68, u 69, u 70, u 71, u 72, u 73, u 74, u 75, u 76, u 77, u 78, u 79, u 80, u 81, u 82, u 83, u 84, u 85, u 86, u 87, u 88, u 89, u 90, u 91, u 92, u 93, u 94, u 95, u 96, u 97, u 98, u 99, u 100, u 101, u 102, u 103, u 104, u 105, u 106, u 107, u 108, u 109, u 110, u 111, u 112, u 113, u 114, u 115, u 116, u 117, u 118, u 119, u 120, u 121, u 122, u 123, u 124, u 125, u 126, u 127, u 128, u 129, u 130, u 131, u 132, u 133, u 134, u 135, u 136, u 137, u 138, u 139, u 140, u 141, u 142, u 143, u 144, u 145, u 146, u 147, u 148, u 149, u 150, u 151, u 152, u 153, u 154, u 155, u 156, u 157, u 158, u 159, u 160, u 161, u 162, u 163, u 164, u 165, u 166, u 167, u 168, u 169, u 170, u 171, u 172, u 173, u 174, u 175, u 176, u 177, u 178, u 179, u 180, u 181, u 182, u 183, u 184, u 185, u 186, u 187, u 188, u 189, u 190, u 191, u 192, u 193, u 194, u 195, u 196, u 197, u 198, u 199, u 200, u 201, u 202, u 203, u 204, u 205, u 206, u 207, u 208, u 209, u 210, u 211, u 212, u 213, u 214, u 215, u 216, u 217, u 218, u 219, u 220, u 221, u 222, u 223, u 224, u 225, u 226, u 227, u 228, u 229, u 230, u 231, u 232, u 233, u 234, u 235, u 236, u 237, u 238, u 239, u 240], []⟩ := by
  obtain ⟨hd, hs, h1, h2, h3, h4, h8, h9, h10, h11⟩ := h
  refine ⟨fun n => c.tmps.getD n undef, ?_⟩
  obtain ⟨t, d⟩ := c
  simp only at hd hs h1 h2 h3 h4 h8 h9 h10 h11 ⊢
  subst hd
  congr 1
  refine (arr_lit t hs).trans ?_
  rw [lit_all]
  simp only [h1, h2, h3, h4, h8, h9, h10, h11]
structure FrE (b i : Nat) (a : Option Addr) (n c0 R k T : Nat) (c : Act) : Prop where
  df : c.defers = []
  sz : c.tmps.size = 241
  s1 : c.tmps.getD 1 undef = .pointer (some ⟨b, 0, none⟩)
  s2 : c.tmps.getD 2 undef = .pointer (some ⟨b + 1, 0, none⟩)
  s3 : c.tmps.getD 3 undef = .bool false
  s4 : c.tmps.getD 4 undef = .pointer (some ⟨b + 2, 0, none⟩)
  s8 : c.tmps.getD 8 undef = .int .i64 i
  s9 : c.tmps.getD 9 undef = .slice a n c0
  s10 : c.tmps.getD 10 undef = .pointer (some ⟨R, 0, none⟩)
  s11 : c.tmps.getD 11 undef = .int .i64 k
  s12 : c.tmps.getD 12 undef = .pointer (some ⟨T, 0, none⟩)
set_option maxRecDepth 100000 in
theorem fre_lit {b i : Nat} {a : Option Addr} {n c0 R k T : Nat} {c : Act} (h : FrE b i a n c0 R k T c) : ∃ u : Nat → Value, c = ⟨#[u 0, .pointer (some ⟨b, 0, none⟩), .pointer (some ⟨b + 1, 0, none⟩), .bool false, .pointer (some ⟨b + 2, 0, none⟩), u 5, u 6, u 7, .int .i64 i, .slice a n c0, .pointer (some ⟨R, 0, none⟩), .int .i64 k, .pointer (some ⟨T, 0, none⟩), u 13, u 14, u 15, u 16, u 17, u 18, u 19, u 20, u 21, u 22, u 23, u 24, u 25, u 26, u 27, u 28, u 29, u 30, u 31, u 32, u 33, u 34, u 35, u 36, u 37, u 38, u 39, u 40, u 41, u 42, u 43, u 44, u 45, u 46, u 47, u 48, u 49, u 50, u 51, u 52, u 53, u 54, u 55, u 56, u 57, u 58, u 59, u 60, u 61, u 62, u 63, u 64, u 65, u 66, u 67, u 68, u 69, u 70, u 71, u 72, u 73, u 74, u 75, u 76, u 77, u 78, u 79, u 80, u 81, u 82, u 83, u 84, u 85, u 86, u 87, u 88, u 89, u 90, u 91, u 92, u 93, u 94, u 95, u 96, u 97, u 98, u 99, u 100, u 101, u 102, u 103, u 104, u 105, u 106, u 107, u 108, u 109, u 110, u 111, u 112, u 113, u 114, u 115, u 116, u 117, u 118, u 119, u 120, u 121, u 122, u 123, u 124, u 125, u 126, u 127, u 128, u 129, u 130, u 131, u 132, u 133, u 134, u 135, u 136, u 137, u 138, u 139, u 140, u 141, u 142, u 143, u 144, u 145, u 146, u 147, u 148, u 149, u 150, u 151, u 152, u 153, u 154, u 155, u 156, u 157, u 158, u 159, u 160, u 161, u 162, u 163, u 164, u 165, u 166, u 167, u 168, u 169, u 170, u 171, u 172, u 173, u 174, u 175, u 176, u 177, u 178, u 179, u 180, u 181, u 182, u 183, u 184, u 185, u 186, u 187, u 188, u 189, u 190, u 191, u 192, u 193, u 194, u 195, u 196, u 197, u 198, u 199, u 200, u 201, u 202, u 203, u 204, u 205, u 206, u 207, u 208, u 209, u 210, u 211, u 212, u 213, u 214, u 215, u 216, u 217, u 218, u 219, u 220, u 221, u 222, u 223, u 224, u 225, u 226, u 227, u 228, u 229, u 230, u 231, u 232, u 233, u 234, u 235, u 236, u 237, u 238, u 239, u 240], []⟩ := by
  obtain ⟨hd, hs, h1, h2, h3, h4, h8, h9, h10, h11, h12⟩ := h
  refine ⟨fun n => c.tmps.getD n undef, ?_⟩
  obtain ⟨t, d⟩ := c
  simp only at hd hs h1 h2 h3 h4 h8 h9 h10 h11 h12 ⊢
  subst hd
  congr 1
  refine (arr_lit t hs).trans ?_
  rw [lit_all]
  simp only [h1, h2, h3, h4, h8, h9, h10, h11, h12]
structure FrF (b i : Nat) (a : Option Addr) (n c0 R k T G : Nat) (c : Act) : Prop where
  df : c.defers = []
  sz : c.tmps.size = 241
  s1 : c.tmps.getD 1 undef = .pointer (some ⟨b, 0, none⟩)
  s2 : c.tmps.getD 2 undef = .pointer (some ⟨b + 1, 0, none⟩)
  s3 : c.tmps.getD 3 undef = .bool false
  s4 : c.tmps.getD 4 undef = .pointer (some ⟨b + 2, 0, none⟩)
  s8 : c.tmps.getD 8 undef = .int .i64 i
  s9 : c.tmps.getD 9 undef = .slice a n c0
  s10 : c.tmps.getD 10 undef = .pointer (some ⟨R, 0, none⟩)
  s11 : c.tmps.getD 11 undef = .int .i64 k
  s12 : c.tmps.getD 12 undef = .pointer (some ⟨T, 0, none⟩)
  s13 : c.tmps.getD 13 undef = .pointer (some ⟨G, 0, none⟩)
set_option maxRecDepth 100000 in
theorem frf_lit {b i : Nat} {a : Option Addr} {n c0 R k T G : Nat} {c : Act} (h : FrF b i a n c0 R k T G c) : ∃ u : Nat → Value, c = ⟨#[u 0, .pointer (some ⟨b, 0, none⟩), .pointer (some ⟨b + 1, 0, none⟩), .bool false, .pointer (some ⟨b + 2, 0, none⟩), u 5, u 6, u 7, .int .i64 i, .slice a n c0, .pointer (some ⟨R, 0, none⟩), .int .i64 k, .pointer (some ⟨T, 0, none⟩), .pointer (some ⟨G, 0, none⟩), u 14, u 15, u 16, u 17, u 18, u 19, u 20, u 21, u 22, u 23, u 24, u 25, u 26, u 27, u 28, u 29, u 30, u 31, u 32, u 33, u 34, u 35, u 36, u 37, u 38, u 39, u 40, u 41, u 42, u 43, u 44, u 45, u 46, u 47, u 48, u 49, u 50, u 51, u 52, u 53, u 54, u 55, u 56, u 57, u 58, u 59, u 60, u 61, u 62, u 63, u 64, u 65, u 66, u 67, u 68, u 69, u 70, u 71, u 72, u 73, u 74, u 75, u 76, u 77, u 78, u 79, u 80, u 81, u 82, u 83, u 84, u 85, u 86, u 87, u 88, u 89, u 90, u 91, u 92, u 93, u 94, u 95, u 96, u 97, u 98, u 99, u 100, u 101, u 102, u 103, u 104, u 105, u 106, u 107, u 108, u 109, u 110, u 111, u 112, u 113, u 114, u 115, u 116, u 117, u 118, u 119, u 120, u 121, u 122, u 123, u 124, u 125, u 126, u 127, u 128, u 129, u 130, u 131, u 132, u 133, u 134, u 135, u 136, u 137, u 138, u 139, u 140, u 141, u 142, u 143, u 144, u 145, u 146, u 147, u 148, u 149, u 150, u 151, u 152, u 153, u 154, u 155, u 156, u 157, u 158, u 159, u 160, u 161, u 162, u 163, u 164, u 165, u 166, u 167, u 168, u 169, u 170, u 171, u 172, u 173, u 174, u 175, u 176, u 177, u 178, u 179, u 180, u 181, u 182, u 183, u 184, u 185, u 186, u 187, u 188, u 189, u 190, u 191, u 192, u 193, u 194, u 195, u 196, u 197, u 198, u 199, u 200, u 201, u 202, u 203, u 204, u 205, u 206, u 207, u 208, u 209, u 210, u 211, u 212, u 213, u 214, u 215, u 216, u 217, u 218, u 219, u 220, u 221, u 222, u 223, u 224, u 225, u 226, u 227, u 228, u 229, u 230, u 231, u 232, u 233, u 234, u 235, u 236, u 237, u 238, u 239, u 240], []⟩ := by
  obtain ⟨hd, hs, h1, h2, h3, h4, h8, h9, h10, h11, h12, h13⟩ := h
  refine ⟨fun n => c.tmps.getD n undef, ?_⟩
  obtain ⟨t, d⟩ := c
  simp only at hd hs h1 h2 h3 h4 h8 h9 h10 h11 h12 h13 ⊢
  subst hd
  congr 1
  refine (arr_lit t hs).trans ?_
  rw [lit_all]
  simp only [h1, h2, h3, h4, h8, h9, h10, h11, h12, h13]
end Go.Proofs.YtiknhkkeifemcaaGreatDoor
namespace Go.Proofs.YtiknhkkeifemcaaGreatDoor
open Go.ChangeShapes Go.WideShapes Go.ChangeAt Go.RowKit Go.Shelf

theorem rws_ne {w : World} {b b' : Nat} {e e' : TypeId} {s s' : Nat} {v v' : Value} {n n' : Nat} {xs xs' : List Value} (h : w.ownsRow b e s v n xs) (h' : w.ownsRow b' e' s' v' n' xs') (hne : e ≠ e') : ∀ k, v.ownBlock = some k → v'.ownBlock ≠ some k := by
  intro k hk hk'
  rcases h.2 with ⟨rfl, _⟩ | ⟨g, cap, cur, rfl, _, hg, _⟩
  · simp [Value.ownBlock] at hk
  rcases h'.2 with ⟨rfl, _⟩ | ⟨g', cap', cur', rfl, _, hg', _⟩
  · simp [Value.ownBlock] at hk'
  simp [Value.ownBlock] at hk hk'
  subst hk
  subst hk'
  rw [hg] at hg'
  injection hg' with hg'
  injection hg' with _ ht
  exact hne ht
theorem rws_other {w w' : World} {row : Option Nat} (hg : w.grownBy w' row) {b : Nat} {e : TypeId} {s : Nat} {v : Value} {n : Nat} {xs : List Value} (h : w.ownsRow b e s v n xs) (hne : ∀ k, v.ownBlock = some k → row ≠ some k) : w'.ownsRow b e s v n xs := by
  obtain ⟨hl, h'⟩ := h
  refine ⟨hl, ?_⟩
  rcases h' with h1 | ⟨g', cap', cur, hv, h1, hg', h2⟩
  · exact .inl h1
  · have hlt := blk_lt hg'
    subst hv
    exact .inr ⟨g', cap', cur, rfl, h1, (hg.block g' hlt (fun e => hne g' (by simp [Value.ownBlock]) e.symm)).trans hg', h2⟩
theorem step2 {C : Nat} {w0 wr W2 W8 : World} {nm nv v4 : Value} {ty e : TypeId} {sz n m : Nat} {xs xs' : List Value} (hb : Below C w0 wr) (hC : wr.heap[C]? = some (.cells #[nm, nv] ty (0, 0))) (hrow : wr.ownsRow (C + 1) e sz nv n xs) (h2 : Below wr.heap.size wr W2)
    (hg : W2.grownBy W8 nv.ownBlock) (ho : W8.ownsRow (C + 1) e sz v4 m xs') :
    Below C w0 (W8.setCell ⟨C, 1, none⟩ v4) ∧ (W8.setCell ⟨C, 1, none⟩ v4).heap[C]? = some (.cells #[nm, v4] ty (0, 0)) ∧ (W8.setCell ⟨C, 1, none⟩ v4).ownsRow (C + 1) e sz v4 m xs' ∧ W8.heap[C]? = some (.cells #[nm, nv] ty (0, 0)) := by
  have hlt := blk_lt hC
  have hC8 : W8.heap[C]? = some (.cells #[nm, nv] ty (0, 0)) := (hg.block C (Nat.lt_of_lt_of_le hlt h2.size) (fun e => by have := (ownsRow_lt hrow C e.symm).1; omega)).trans ((h2.block C hlt).trans hC)
  exact ⟨((hb.trans (h2.mono (Nat.le_of_lt hlt))).grown hg (by have := h2.size; omega) (fun k hk => by have := (ownsRow_lt hrow k hk).1; omega)).setCell (Nat.le_refl _) v4, (blk_set hC8 1 v4).trans rfl, ownsRow_setCell_below ho (Nat.lt_succ_self C) v4, hC8⟩
theorem two_str (W : World) (x y : Int) : (convert 22 9 (.slice (some ⟨W.heap.size, 0, none⟩) 2 2)).run Tryz.prog (W.alloc (.cells #[.int .u8 x, .int .u8 y] 5)) = .ok (.string (strOfNums [x, y])) (W.alloc (.cells #[.int .u8 x, .int .u8 y] 5)) := by
  refine run_convert_bytes_arg (P := Tryz.prog) _ 22 5 Tryz.underlying22 Tryz.underlying5 W.heap.size 0 2 2 [x, y] rfl (fun k hk => ?_) 9 Tryz.underlying9
  have : k = 0 ∨ k = 1 := by omega
  rcases this with rfl | rfl
  · rw [cell_of_row _ _ _ _ _ (0, 0) (heap_alloc_new W _)]
    rfl
  · rw [cell_of_row _ _ _ _ _ (0, 0) (heap_alloc_new W _)]
    rfl
def valsL (k : Nat) : List ByteArray := (List.range k).map valName
theorem valsL_succ (k : Nat) : valsL (k + 1) = valsL k ++ [valName k] := by simp [valsL, List.range_succ]
theorem valsL_length (k : Nat) : (valsL k).length = k := by simp [valsL]
theorem strsCells_succ (k : Nat) : strsCells (valsL (k + 1)) = strsCells (valsL k) ++ [.string (valName k)] := by rw [valsL_succ, strsCells_snoc]; rfl
set_option maxRecDepth 100000 in
theorem vals_wp {Q : Exit → Act → World → Prop} {c : Act} {w0 : World} {b i C n0 c0 z B off : Nat} {x1 x2 x3 nm : Value} (hc : FrB b i C 0 c) (hbox : w0.heap[b]? = some (.cells #[.slice (some ⟨B, off, none⟩) n0 c0, x1, x2, x3] 25 (0, 0))) (hbC : b < C) (hBC : B < C)
    (hz : w0.cell? ⟨B, off + i, none⟩ = some (.int .u8 z)) (hz2 : z ≤ 255) (hi : i < n0) (hC : w0.heap[C]? = some (.cells #[nm, .slice none 0 0] 92 (0, 0)))
    (hQ : ∀ c' w' nv, FrB b i C (z % 32 + 1) c' → Below C w0 w' → w'.heap[C]? = some (.cells #[nm, nv] 92 (0, 0)) → w'.ownsRow (C + 1) 9 1 nv (z % 32 + 1) (strsCells (valsL (z % 32 + 1))) → Q (.exit 2) c' w') :
    Code.wp Tryz.prog (Code.loop (madeLoop 1)) Q c w0 := by
  refine wp_loop (fun c' w' => ∃ (k : Nat) (nv : Value), k ≤ z % 32 + 1 ∧ FrB b i C k c' ∧ Below C w0 w' ∧ w'.heap[C]? = some (.cells #[nm, nv] 92 (0, 0)) ∧ w'.ownsRow (C + 1) 9 1 nv k (strsCells (valsL k)))
    (fun c' _ => z % 32 + 2 - (intOf (c'.tmps.getD 7 undef)).toNat) ⟨0, _, Nat.zero_le _, hc, Below.refl _ _, hC, World.ownsRow_nil _ _ _ _⟩ ?_
  clear hc hC
  rintro c wr ⟨k, nv, hk, hc, hb, hC, hrow⟩
  have HB := Lib.hid hb
  have HQ := Lib.hid hQ
  have HCB := Lib.hid hC
  have HROW := Lib.hid hrow
  obtain ⟨u, rfl⟩ := frb_lit hc
  have hbx := blk_below hbox hb hbC
  have y0 := (blk_cell hbx 0).trans rfl
  have hq := (hb.cell (p := ⟨B, off + i, none⟩) hBC).trans hz
  have hmod : (z : Int) % 32 = ((z % 32 : Nat) : Int) := by omega
  have hz32 : z % 32 < 32 := by omega
  obtain ⟨nva, nvc, rfl⟩ := ownsRow_form hrow
  obtain ⟨hCl, c0', c1', f0, f1⟩ := blk2 hC
  obtain ⟨i0, hi0, hzz0, hzz1, hzz2⟩ := info_parts str_info
  have I1 := Lib.hid hi0
  have I2 := Lib.hid hzz0
  have I3 := Lib.hid hzz1
  have I4 := Lib.hid hzz2
  have kc := two_str
  generalize z % 32 = cn at *
  clear hc hQ hb hC hrow hbx hz hbox hi0 hzz0 hzz1 hzz2
  conv => arg 2; whnf
  by_cases hkl : k ≤ cn
  · have hsz : ¬ 9223372036854775807 < 1 + (strOfNums [97 + (k : Int) % 26, 97 + (k : Int) / 26]).size := by rw [strOfNums_size]; simp
    obtain ⟨hb2, hB1, hB2⟩ := two_start wr #[.int .u8 (97 + (k : Int) % 26), .int .u8 (97 + (k : Int) / 26)] #[.string (valName k)] 5 9
    have HB2 := Lib.hid hb2
    have HBB := Lib.hid hB2
    clear hb2 hB1 hB2
    go_wp2_with (at_builtin; refine wpList_append_own _ rfl (.tmp 65) (.tmp 77) 48 rfl (C + 1) 9 i0 _ 1 16 Tryz.underlying48 I1.out I2.out I3.out I4.out rfl (by decide) _ k (strsCells (valsL k)) rfl (row_keep HB2.out HROW.out) _ 1 1 [.string (valName k)] rfl rfl (World.news_of_block HBB.out) (by intro u hu; rw [List.mem_singleton.1 hu]; rfl) (by unfold maxLen; omega) (by omega) (by simp; omega) ?_; intro v4 W8 hown4 hg4 hx; clear hx; obtain ⟨s1, s2, s3, s4⟩ := step2 HB.out HCB.out HROW.out HB2.out hg4 hown4; obtain ⟨_, d0, d1, e0, e1⟩ := blk2 s4; have S1 := Lib.hid s1; have S2 := Lib.hid s2; have S3 := Lib.hid s3; obtain ⟨a4, m4, rfl⟩ := ownsRow_form hown4; clear s1 s2 s3 s4 hown4 hg4)
    refine ⟨⟨k + 1, _, by omega, ⟨rfl, rfl, rfl, rfl, rfl, rfl, rfl, rfl, rfl⟩, S1.out, S2.out, by rw [strsCells_succ]; exact S3.out⟩, ?_⟩
    show cn + 2 - (intOf (.int .i64 ((k : Int) + 1))).toNat < cn + 2 - (intOf (.int .i64 (k : Int))).toNat
    simp [intOf]; omega
  · obtain rfl : k = cn + 1 := by omega
    clear hkl
    go_wp2
    exact HQ.out _ _ _ ⟨rfl, rfl, rfl, rfl, rfl, rfl, rfl, rfl, rfl⟩ HB.out HCB.out HROW.out
end Go.Proofs.YtiknhkkeifemcaaGreatDoor
