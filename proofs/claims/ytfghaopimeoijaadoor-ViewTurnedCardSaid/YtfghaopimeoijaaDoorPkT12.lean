/-
  The frame of the hand's Made where only some of its slots are known, and written out; the loops' bodies, out of the program's own translation. No run stands in this text. (Made by program: wip/tools/gen-madef.py.)
-/
import Derived.Test.YtfghaopimeoijaaDoorPkT11
namespace Go.Proofs.YtfghaopimeoijaaDoor
open Go.ChangeShapes Go.WideShapes Go.ChangeAt Go.RowKit

def loopsOf : Code → List Code
  | .loop c => c :: loopsOf c
  | .seq a b => loopsOf a ++ loopsOf b
  | .block _ c => loopsOf c
  | .scope c => loopsOf c
  | .cond _ a b => loopsOf a ++ loopsOf b
  | _ => []
noncomputable def madeLoop (n : Nat) : Code := ((Tryd.f9.body.map loopsOf).getD []).getD n .skip
theorem arr_lit (t : Array Value) (h : t.size = 241) : t = ((List.range 241).map fun n => t.getD n undef).toArray := by
  apply Array.ext'
  apply List.ext_getElem?
  intro i
  by_cases hi : i < 241
  · have h' : i < t.size := by omega
    simp [hi, h', Array.getD]
  · have h' : ¬ i < t.size := by omega
    simp [hi, h']
set_option maxRecDepth 100000 in
theorem lit_all (u : Nat → Value) : ((List.range 241).map u).toArray = #[u 0, u 1, u 2, u 3, u 4, u 5, u 6, u 7, u 8, u 9, u 10, u 11, u 12, u 13, u 14, u 15, u 16, u 17, u 18, u 19, u 20, u 21, u 22, u 23, u 24, u 25, u 26, u 27, u 28, u 29, u 30, u 31, u 32, u 33, u 34, u 35, u 36, u 37, u 38, u 39, u 40, u 41, u 42, u 43, u 44, u 45, u 46, u 47, u 48, u 49, u 50, u 51, u 52, u 53, u 54, u 55, u 56, u 57, u 58, u 59, u 60, u 61, u 62, u 63, u 64, u 65, u 66, u 67, u 68, u 69, u 70, u 71, u 72, u 73, u 74, u 75, u 76, u 77, u 78, u 79, u 80, u 81, u 82, u 83, u 84, u 85, u 86, u 87, u 88, u 89, u 90, u 91, u 92, u 93, u 94, u 95, u 96, u 97, u 98, u 99, u 100, u 101, u 102, u 103, u 104, u 105, u 106, u 107, u 108, u 109, u 110, u 111, u 112, u 113, u 114, u 115, u 116, u 117, u 118, u 119, u 120, u 121, u 122, u 123, u 124, u 125, u 126, u 127, u 128, u 129, u 130, u 131, u 132, u 133, u 134, u 135, u 136, u 137, u 138, u 139, u 140, u 141, u 142, u 143, u 144, u 145, u 146, u 147, u 148, u 149, u 150, u 151, u 152, u 153, u 154, u 155, u 156, u 157, u 158, u 159, u 160, u 161, u 162, u 163, u 164, u 165, u 166, u 167, u 168, u 169, u 170, u 171, u 172, u 173, u 174, u 175, u 176, u 177, u 178, u 179, u 180, u 181, u 182, u 183, u 184, u 185, u 186, u 187, u 188, u 189, u 190, u 191, u 192, u 193, u 194, u 195, u 196, u 197, u 198, u 199, u 200, u 201, u 202, u 203, u 204, u 205, u 206, u 207, u 208, u 209, u 210, u 211, u 212, u 213, u 214, u 215, u 216, u 217, u 218, u 219, u 220, u 221, u 222, u 223, u 224, u 225, u 226, u 227, u 228, u 229, u 230, u 231, u 232, u 233, u 234, u 235, u 236, u 237, u 238, u 239, u 240] := rfl
structure FrA (b i : Nat) (c : Act) : Prop where
  df : c.defers = []
  sz : c.tmps.size = 241
  s1 : c.tmps.getD 1 undef = .pointer (some ⟨b, 0, none⟩)
  s2 : c.tmps.getD 2 undef = .pointer (some ⟨b + 1, 0, none⟩)
  s3 : c.tmps.getD 3 undef = .bool false
  s4 : c.tmps.getD 4 undef = .pointer (some ⟨b + 2, 0, none⟩)
  s5 : c.tmps.getD 5 undef = .int .i64 i
set_option maxRecDepth 100000 in
theorem fra_lit {b i : Nat} {c : Act} (h : FrA b i c) : ∃ u : Nat → Value, c = ⟨#[u 0, .pointer (some ⟨b, 0, none⟩), .pointer (some ⟨b + 1, 0, none⟩), .bool false, .pointer (some ⟨b + 2, 0, none⟩), .int .i64 i, u 6, u 7, u 8, u 9, u 10, u 11, u 12, u 13, u 14, u 15, u 16, u 17, u 18, u 19, u 20, u 21, u 22, u 23, u 24, u 25, u 26, u 27, u 28, u 29, u 30, u 31, u 32, u 33, u 34, u 35, u 36, u 37, u 38, u 39, u 40, u 41, u 42, u 43, u 44, u 45, u 46, u 47, u 48, u 49, u 50, u 51, u 52, u 53, u 54, u 55, u 56, u 57, u 58, u 59, u 60, u 61, u 62, u 63, u 64, u 65, u 66, u 67, u 68, u 69, u 70, u 71, u 72, u 73, u 74, u 75, u 76, u 77, u 78, u 79, u 80, u 81, u 82, u 83, u 84, u 85, u 86, u 87, u 88, u 89, u 90, u 91, u 92, u 93, u 94, u 95, u 96, u 97, u 98, u 99, u 100, u 101, u 102, u 103, u 104, u 105, u 106, u 107, u 108, u 109, u 110, u 111, u 112, u 113, u 114, u 115, u 116, u 117, u 118, u 119, u 120, u 121, u 122, u 123, u 124, u 125, u 126, u 127, u 128, u 129, u 130, u 131, u 132, u 133, u 134, u 135, u 136, u 137, u 138, u 139, u 140, u 141, u 142, u 143, u 144, u 145, u 146, u 147, u 148, u 149, u 150, u 151, u 152, u 153, u 154, u 155, u 156, u 157, u 158, u 159, u 160, u 161, u 162, u 163, u 164, u 165, u 166, u 167, u 168, u 169, u 170, u 171, u 172, u 173, u 174, u 175, u 176, u 177, u 178, u 179, u 180, u 181, u 182, u 183, u 184, u 185, u 186, u 187, u 188, u 189, u 190, u 191, u 192, u 193, u 194, u 195, u 196, u 197, u 198, u 199, u 200, u 201, u 202, u 203, u 204, u 205, u 206, u 207, u 208, u 209, u 210, u 211, u 212, u 213, u 214, u 215, u 216, u 217, u 218, u 219, u 220, u 221, u 222, u 223, u 224, u 225, u 226, u 227, u 228, u 229, u 230, u 231, u 232, u 233, u 234, u 235, u 236, u 237, u 238, u 239, u 240], []⟩ := by
  obtain ⟨hd, hs, h1, h2, h3, h4, h5⟩ := h
  refine ⟨fun n => c.tmps.getD n undef, ?_⟩
  obtain ⟨t, d⟩ := c
  simp only at hd hs h1 h2 h3 h4 h5 ⊢
  subst hd
  congr 1
  refine (arr_lit t hs).trans ?_
  rw [lit_all]
  simp only [h1, h2, h3, h4, h5]
structure FrB (b i C k : Nat) (c : Act) : Prop where
  df : c.defers = []
  sz : c.tmps.size = 241
  s1 : c.tmps.getD 1 undef = .pointer (some ⟨b, 0, none⟩)
  s2 : c.tmps.getD 2 undef = .pointer (some ⟨b + 1, 0, none⟩)
  s3 : c.tmps.getD 3 undef = .bool false
  s4 : c.tmps.getD 4 undef = .pointer (some ⟨b + 2, 0, none⟩)
  s5 : c.tmps.getD 5 undef = .int .i64 i
  s6 : c.tmps.getD 6 undef = .pointer (some ⟨C, 0, none⟩)
  s7 : c.tmps.getD 7 undef = .int .i64 k
set_option maxRecDepth 100000 in
theorem frb_lit {b i C k : Nat} {c : Act} (h : FrB b i C k c) : ∃ u : Nat → Value, c = ⟨#[u 0, .pointer (some ⟨b, 0, none⟩), .pointer (some ⟨b + 1, 0, none⟩), .bool false, .pointer (some ⟨b + 2, 0, none⟩), .int .i64 i, .pointer (some ⟨C, 0, none⟩), .int .i64 k, u 8, u 9, u 10, u 11, u 12, u 13, u 14, u 15, u 16, u 17, u 18, u 19, u 20, u 21, u 22, u 23, u 24, u 25, u 26, u 27, u 28, u 29, u 30, u 31, u 32, u 33, u 34, u 35, u 36, u 37, u 38, u 39, u 40, u 41, u 42, u 43, u 44, u 45, u 46, u 47, u 48, u 49, u 50, u 51, u 52, u 53, u 54, u 55, u 56, u 57, u 58, u 59, u 60, u 61, u 62, u 63, u 64, u 65, u 66, u 67, u 68, u 69, u 70, u 71, u 72, u 73, u 74, u 75, u 76, u 77, u 78, u 79, u 80, u 81, u 82, u 83, u 84, u 85, u 86, u 87, u 88, u 89, u 90, u 91, u 92, u 93, u 94, u 95, u 96, u 97, u 98, u 99, u 100, u 101, u 102, u 103, u 104, u 105, u 106, u 107, u 108, u 109, u 110, u 111, u 112, u 113, u 114, u 115, u 116, u 117, u 118, u 119, u 120, u 121, u 122, u 123, u 124, u 125, u 126, u 127, u 128, u 129, u 130, u 131, u 132, u 133, u 134, u 135, u 136, u 137, u 138, u 139, u 140, u 141, u 142, u 143, u 144, u 145, u 146, u 147, u 148, u 149, u 150, u 151, u 152, u 153, u 154, u 155, u 156, u 157, u 158, u 159, u 160, u 161, u 162, u 163, u 164, u 165, u 166, u 167, u 168, u 169, u 170, u 171, u 172, u 173, u 174, u 175, u 176, u 177, u 178, u 179, u 180, u 181, u 182, u 183, u 184, u 185, u 186, u 187, u 188, u 189, u 190, u 191, u 192, u 193, u 194, u 195, u 196, u 197, u 198, u 199, u 200, u 201, u 202, u 203, u 204, u 205, u 206, u 207, u 208, u 209, u 210, u 211, u 212, u 213, u 214, u 215, u 216, u 217, u 218, u 219, u 220, u 221, u 222, u 223, u 224, u 225, u 226, u 227, u 228, u 229, u 230, u 231, u 232, u 233, u 234, u 235, u 236, u 237, u 238, u 239, u 240], []⟩ := by
  obtain ⟨hd, hs, h1, h2, h3, h4, h5, h6, h7⟩ := h
  refine ⟨fun n => c.tmps.getD n undef, ?_⟩
  obtain ⟨t, d⟩ := c
  simp only at hd hs h1 h2 h3 h4 h5 h6 h7 ⊢
  subst hd
  congr 1
  refine (arr_lit t hs).trans ?_
  rw [lit_all]
  simp only [h1, h2, h3, h4, h5, h6, h7]
structure FrC (b i : Nat) (c : Act) : Prop where
  df : c.defers = []
  sz : c.tmps.size = 241
  s1 : c.tmps.getD 1 undef = .pointer (some ⟨b, 0, none⟩)
  s2 : c.tmps.getD 2 undef = .pointer (some ⟨b + 1, 0, none⟩)
  s3 : c.tmps.getD 3 undef = .bool false
  s4 : c.tmps.getD 4 undef = .pointer (some ⟨b + 2, 0, none⟩)
  s8 : c.tmps.getD 8 undef = .int .i64 i
set_option maxRecDepth 100000 in
theorem frc_lit {b i : Nat} {c : Act} (h : FrC b i c) : ∃ u : Nat → Value, c = ⟨#[u 0, .pointer (some ⟨b, 0, none⟩), .pointer (some ⟨b + 1, 0, none⟩), .bool false, .pointer (some ⟨b + 2, 0, none⟩), u 5, u 6, u 7, .int .i64 i, u 9, u 10, u 11, u 12, u 13, u 14, u 15, u 16, u 17, u 18, u 19, u 20, u 21, u 22, u 23, u 24, u 25, u 26, u 27, u 28, u 29, u 30, u 31, u 32, u 33, u 34, u 35, u 36, u 37, u 38, u 39, u 40, u 41, u 42, u 43, u 44, u 45, u 46, u 47, u 48, u 49, u 50, u 51, u 52, u 53, u 54, u 55, u 56, u 57, u 58, u 59, u 60, u 61, u 62, u 63, u 64, u 65, u 66, u 67, u 68, u 69, u 70, u 71, u 72, u 73, u 74, u 75, u 76, u 77, u 78, u 79, u 80, u 81, u 82, u 83, u 84, u 85, u 86, u 87, u 88, u 89, u 90, u 91, u 92, u 93, u 94, u 95, u 96, u 97, u 98, u 99, u 100, u 101, u 102, u 103, u 104, u 105, u 106, u 107, u 108, u 109, u 110, u 111, u 112, u 113, u 114, u 115, u 116, u 117, u 118, u 119, u 120, u 121, u 122, u 123, u 124, u 125, u 126, u 127, u 128, u 129, u 130, u 131, u 132, u 133, u 134, u 135, u 136, u 137, u 138, u 139, u 140, u 141, u 142, u 143, u 144, u 145, u 146, u 147, u 148, u 149, u 150, u 151, u 152, u 153, u 154, u 155, u 156, u 157, u 158, u 159, u 160, u 161, u 162, u 163, u 164, u 165, u 166, u 167, u 168, u 169, u 170, u 171, u 172, u 173, u 174, u 175, u 176, u 177, u 178, u 179, u 180, u 181, u 182, u 183, u 184, u 185, u 186, u 187, u 188, u 189, u 190, u 191, u 192, u 193, u 194, u 195, u 196, u 197, u 198, u 199, u 200, u 201, u 202, u 203, u 204, u 205, u 206, u 207, u 208, u 209, u 210, u 211, u 212, u 213, u 214, u 215, u 216, u 217, u 218, u 219, u 220, u 221, u 222, u 223, u 224, u 225, u 226, u 227, u 228, u 229, u 230, u 231, u 232, u 233, u 234, u 235, u 236, u 237, u 238, u 239, u 240], []⟩ := by
  obtain ⟨hd, hs, h1, h2, h3, h4, h8⟩ := h
  refine ⟨fun n => c.tmps.getD n undef, ?_⟩
  obtain ⟨t, d⟩ := c
  simp only at hd hs h1 h2 h3 h4 h8 ⊢
  subst hd
  congr 1
  refine (arr_lit t hs).trans ?_
  rw [lit_all]
  simp only [h1, h2, h3, h4, h8]
structure FrD (b i : Nat) (a : Option Addr) (n c0 R k : Nat) (c : Act) : Prop where
  df : c.defers = []
  sz : c.tmps.size = 241
  s1 : c.tmps.getD 1 undef = .pointer (some ⟨b, 0, none⟩)
  s2 : c.tmps.getD 2 undef = .pointer (some ⟨b + 1, 0, none⟩)
  s3 : c.tmps.getD 3 undef = .bool false
  s4 : c.tmps.getD 4 undef = .pointer (some ⟨b + 2, 0, none⟩)
  s8 : c.tmps.getD 8 undef = .int .i64 i
  s9 : c.tmps.getD 9 undef = .slice a n c0
  s10 : c.tmps.getD 10 undef = .pointer (some ⟨R, 0, none⟩)
  s11 : c.tmps.getD 11 undef = .int .i64 k
set_option maxRecDepth 100000 in
theorem frd_lit {b i : Nat} {a : Option Addr} {n c0 R k : Nat} {c : Act} (h : FrD b i a n c0 R k c) : ∃ u : Nat → Value, c = ⟨#[u 0, .pointer (some ⟨b, 0, none⟩), .pointer (some ⟨b + 1, 0, none⟩), .bool false, .pointer (some ⟨b + 2, 0, none⟩), u 5, u 6, u 7, .int .i64 i, .slice a n c0, .pointer (some ⟨R, 0, none⟩), .int .i64 k, u 12, u 13, u 14, u 15, u 16, u 17, u 18, u 19, u 20, u 21, u 22, u 23, u 24, u 25, u 26, u 27, u 28, u 29, u 30, u 31, u 32, u 33, u 34, u 35, u 36, u 37, u 38, u 39, u 40, u 41, u 42, u 43, u 44, u 45, u 46, u 47, u 48, u 49, u 50, u 51, u 52, u 53, u 54, u 55, u 56, u 57, u 58, u 59, u 60, u 61, u 62, u 63, u 64, u 65, u 66, u 67, u 68, u 69, u 70, u 71, u 72, u 73, u 74, u 75, u 76, u 77, u 78, u 79, u 80, u 81, u 82, u 83, u 84, u 85, u 86, u 87, u 88, u 89, u 90, u 91, u 92, u 93, u 94, u 95, u 96, u 97, u 98, u 99, u 100, u 101, u 102, u 103, u 104, u 105, u 106, u 107, u 108, u 109, u 110, u 111, u 112, u 113, u 114, u 115, u 116, u 117, u 118, u 119, u 120, u 121, u 122, u 123, u 124, u 125, u 126, u 127, u 128, u 129, u 130, u 131, u 132, u 133, u 134, u 135, u 136, u 137, u 138, u 139, u 140, u 141, u 142, u 143, u 144, u 145, u 146, u 147, u 148, u 149, u 150, u 151, u 152, u 153, u 154, u 155, u 156, u 157, u 158, u 159, u 160, u 161, u 162, u 163, u 164, u 165, u 166, u 167, u 168, u 169, u 170, u 171, u 172, u 173, u 174, u 175, u 176, u 177, u 178, u 179, u 180, u 181, u 182, u 183, u 184, u 185, u 186, u 187, u 188, u 189, u 190, u 191, u 192, u 193, u 194, u 195, u 196, u 197, u 198, u 199, u 200, u 201, u 202, u 203, u 204, u 205, u 206, u 207, u 208, u 209, u 210, u 211, u 212, u 213, u 214, u 215, u 216, u 217, u 218, u 219, u 220, u 221, u 222, u 223, u 224, u 225, u 226, u 227, u 228, u 229, u 230, u 231, u 232, u 233, u 234, u 235, u 236, u 237, u 238, u 239, u 240], []⟩ := by
  obtain ⟨hd, hs, h1, h2, h3, h4, h8, h9, h10, h11⟩ := h
  refine ⟨fun n => c.tmps.getD n undef, ?_⟩
  obtain ⟨t, d⟩ := c
  simp only at hd hs h1 h2 h3 h4 h8 h9 h10 h11 ⊢
  subst hd
  congr 1
  refine (arr_lit t hs).trans ?_
  rw [lit_all]
  simp only [h1, h2, h3, h4, h8, h9, h10, h11]
structure FrE (b i : Nat) (a : Option Addr) (n c0 R k T : Nat) (c : Act) : Prop where
  df : c.defers = []
  sz : c.tmps.size = 241
  s1 : c.tmps.getD 1 undef = .pointer (some ⟨b, 0, none⟩)
  s2 : c.tmps.getD 2 undef = .pointer (some ⟨b + 1, 0, none⟩)
  s3 : c.tmps.getD 3 undef = .bool false
  s4 : c.tmps.getD 4 undef = .pointer (some ⟨b + 2, 0, none⟩)
  s8 : c.tmps.getD 8 undef = .int .i64 i
  s9 : c.tmps.getD 9 undef = .slice a n c0
  s10 : c.tmps.getD 10 undef = .pointer (some ⟨R, 0, none⟩)
  s11 : c.tmps.getD 11 undef = .int .i64 k
  s12 : c.tmps.getD 12 undef = .pointer (some ⟨T, 0, none⟩)
set_option maxRecDepth 100000 in
theorem fre_lit {b i : Nat} {a : Option Addr} {n c0 R k T : Nat} {c : Act} (h : FrE b i a n c0 R k T c) : ∃ u : Nat → Value, c = ⟨#[u 0, .pointer (some ⟨b, 0, none⟩), .pointer (some ⟨b + 1, 0, none⟩), .bool false, .pointer (some ⟨b + 2, 0, none⟩), u 5, u 6, u 7, .int .i64 i, .slice a n c0, .pointer (some ⟨R, 0, none⟩), .int .i64 k, .pointer (some ⟨T, 0, none⟩), u 13, u 14, u 15, u 16, u 17, u 18, u 19, u 20, u 21, u 22, u 23, u 24, u 25, u 26, u 27, u 28, u 29, u 30, u 31, u 32, u 33, u 34, u 35, u 36, u 37, u 38, u 39, u 40, u 41, u 42, u 43, u 44, u 45, u 46, u 47, u 48, u 49, u 50, u 51, u 52, u 53, u 54, u 55, u 56, u 57, u 58, u 59, u 60, u 61, u 62, u 63, u 64, u 65, u 66, u 67, u 68, u 69, u 70, u 71, u 72, u 73, u 74, u 75, u 76, u 77, u 78, u 79, u 80, u 81, u 82, u 83, u 84, u 85, u 86, u 87, u 88, u 89, u 90, u 91, u 92, u 93, u 94, u 95, u 96, u 97, u 98, u 99, u 100, u 101, u 102, u 103, u 104, u 105, u 106, u 107, u 108, u 109, u 110, u 111, u 112, u 113, u 114, u 115, u 116, u 117, u 118, u 119, u 120, u 121, u 122, u 123, u 124, u 125, u 126, u 127, u 128, u 129, u 130, u 131, u 132, u 133, u 134, u 135, u 136, u 137, u 138, u 139, u 140, u 141, u 142, u 143, u 144, u 145, u 146, u 147, u 148, u 149, u 150, u 151, u 152, u 153, u 154, u 155, u 156, u 157, u 158, u 159, u 160, u 161, u 162, u 163, u 164, u 165, u 166, u 167, u 168, u 169, u 170, u 171, u 172, u 173, u 174, u 175, u 176, u 177, u 178, u 179, u 180, u 181, u 182, u 183, u 184, u 185, u 186, u 187, u 188, u 189, u 190, u 191, u 192, u 193, u 194, u 195, u 196, u 197, u 198, u 199, u 200, u 201, u 202, u 203, u 204, u 205, u 206, u 207, u 208, u 209, u 210, u 211, u 212, u 213, u 214, u 215, u 216, u 217, u 218, u 219, u 220, u 221, u 222, u 223, u 224, u 225, u 226, u 227, u 228, u 229, u 230, u 231, u 232, u 233, u 234, u 235, u 236, u 237, u 238, u 239, u 240], []⟩ := by
  obtain ⟨hd, hs, h1, h2, h3, h4, h8, h9, h10, h11, h12⟩ := h
  refine ⟨fun n => c.tmps.getD n undef, ?_⟩
  obtain ⟨t, d⟩ := c
  simp only at hd hs h1 h2 h3 h4 h8 h9 h10 h11 h12 ⊢
  subst hd
  congr 1
  refine (arr_lit t hs).trans ?_
  rw [lit_all]
  simp only [h1, h2, h3, h4, h8, h9, h10, h11, h12]
structure FrF (b i : Nat) (a : Option Addr) (n c0 R k T G : Nat) (c : Act) : Prop where
  df : c.defers = []
  sz : c.tmps.size = 241
  s1 : c.tmps.getD 1 undef = .pointer (some ⟨b, 0, none⟩)
  s2 : c.tmps.getD 2 undef = .pointer (some ⟨b + 1, 0, none⟩)
  s3 : c.tmps.getD 3 undef = .bool false
  s4 : c.tmps.getD 4 undef = .pointer (some ⟨b + 2, 0, none⟩)
  s8 : c.tmps.getD 8 undef = .int .i64 i
  s9 : c.tmps.getD 9 undef = .slice a n c0
  s10 : c.tmps.getD 10 undef = .pointer (some ⟨R, 0, none⟩)
  s11 : c.tmps.getD 11 undef = .int .i64 k
  s12 : c.tmps.getD 12 undef = .pointer (some ⟨T, 0, none⟩)
  s13 : c.tmps.getD 13 undef = .pointer (some ⟨G, 0, none⟩)
set_option maxRecDepth 100000 in
theorem frf_lit {b i : Nat} {a : Option Addr} {n c0 R k T G : Nat} {c : Act} (h : FrF b i a n c0 R k T G c) : ∃ u : Nat → Value, c = ⟨#[u 0, .pointer (some ⟨b, 0, none⟩), .pointer (some ⟨b + 1, 0, none⟩), .bool false, .pointer (some ⟨b + 2, 0, none⟩), u 5, u 6, u 7, .int .i64 i, .slice a n c0, .pointer (some ⟨R, 0, none⟩), .int .i64 k, .pointer (some ⟨T, 0, none⟩), .pointer (some ⟨G, 0, none⟩), u 14, u 15, u 16, u 17, u 18, u 19, u 20, u 21, u 22, u 23, u 24, u 25, u 26, u 27, u 28, u 29, u 30, u 31, u 32, u 33, u 34, u 35, u 36, u 37, u 38, u 39, u 40, u 41, u 42, u 43, u 44, u 45, u 46, u 47, u 48, u 49, u 50, u 51, u 52, u 53, u 54, u 55, u 56, u 57, u 58, u 59, u 60, u 61, u 62, u 63, u 64, u 65, u 66, u 67, u 68, u 69, u 70, u 71, u 72, u 73, u 74, u 75, u 76, u 77, u 78, u 79, u 80, u 81, u 82, u 83, u 84, u 85, u 86, u 87, u 88, u 89, u 90, u 91, u 92, u 93, u 94, u 95, u 96, u 97, u 98, u 99, u 100, u 101, u 102, u 103, u 104, u 105, u 106, u 107, u 108, u 109, u 110, u 111, u 112, u 113, u 114, u 115, u 116, u 117, u 118, u 119, u 120, u 121, u 122, u 123, u 124, u 125, u 126, u 127, u 128, u 129, u 130, u 131, u 132, u 133, u 134, u 135, u 136, u 137, u 138, u 139, u 140, u 141, u 142, u 143, u 144, u 145, u 146, u 147, u 148, u 149, u 150, u 151, u 152, u 153, u 154, u 155, u 156, u 157, u 158, u 159, u 160, u 161, u 162, u 163, u 164, u 165, u 166, u 167, u 168, u 169, u 170, u 171, u 172, u 173, u 174, u 175, u 176, u 177, u 178, u 179, u 180, u 181, u 182, u 183, u 184, u 185, u 186, u 187, u 188, u 189, u 190, u 191, u 192, u 193, u 194, u 195, u 196, u 197, u 198, u 199, u 200, u 201, u 202, u 203, u 204, u 205, u 206, u 207, u 208, u 209, u 210, u 211, u 212, u 213, u 214, u 215, u 216, u 217, u 218, u 219, u 220, u 221, u 222, u 223, u 224, u 225, u 226, u 227, u 228, u 229, u 230, u 231, u 232, u 233, u 234, u 235, u 236, u 237, u 238, u 239, u 240], []⟩ := by
  obtain ⟨hd, hs, h1, h2, h3, h4, h8, h9, h10, h11, h12, h13⟩ := h
  refine ⟨fun n => c.tmps.getD n undef, ?_⟩
  obtain ⟨t, d⟩ := c
  simp only at hd hs h1 h2 h3 h4 h8 h9 h10 h11 h12 h13 ⊢
  subst hd
  congr 1
  refine (arr_lit t hs).trans ?_
  rw [lit_all]
  simp only [h1, h2, h3, h4, h8, h9, h10, h11, h12, h13]
end Go.Proofs.YtfghaopimeoijaaDoor
