/-
  The document's Make: an enum's values looked at two by two. Conditions: those that each theorem names.
-/
import Derived.Test.YtleclhnlojalbaaGreatDoorPkL19
import Derived.Test.YtleclhnlojalbaaGreatDoorPkL26
namespace Go.Proofs.YtleclhnlojalbaaGreatDoor
open Go.ChangeShapes Go.WideShapes Go.ChangeAt Go.RowKit

theorem arr_litRm (t : Array Value) (h : t.size = 348) : t = ((List.range 348).map fun n => t.getD n undef).toArray := by
  apply Array.ext'
  apply List.ext_getElem?
  intro i
  by_cases hi : i < 348
  · have h' : i < t.size := by omega
    simp [hi, h', Array.getD]
  · have h' : ¬ i < t.size := by omega
    simp [hi, h']
set_option maxRecDepth 100000 in
theorem lit_allRm (u : Nat → Value) : ((List.range 348).map u).toArray = #[u 0, u 1, u 2, u 3, u 4, u 5, u 6, u 7, u 8, u 9, u 10, u 11, u 12, u 13, u 14, u 15, u 16, u 17, u 18, u 19, u 20, u 21, u 22, u 23, u 24, u 25, u 26, u 27, u 28, u 29, u 30, u 31, u 32, u 33, u 34, u 35, u 36, u 37, u 38, u 39, u 40, u 41, u 42, u 43, u 44, u 45, u 46, u 47, u 48, u 49, u 50, u 51, u 52, u 53, u 54, u 55, u 56, u 57, u 58, u 59, u 60, u 61, u 62, u 63, u 64, u 65, u 66, u 67, u 68, u 69, u 70, u 71, u 72, u 73, u 74, u 75, u 76, u 77, u 78, u 79, u 80, u 81, u 82, u 83, u 84, u 85, u 86, u 87, u 88, u 89, u 90, u 91, u 92, u 93, u 94, u 95, u 96, u 97, u 98, u 99, u 100, u 101, u 102, u 103, u 104, u 105, u 106, u 107, u 108, u 109, u 110, u 111, u 112, u 113, u 114, u 115, u 116, u 117, u 118, u 119, u 120, u 121, u 122, u 123, u 124, u 125, u 126, u 127, u 128, u 129, u 130, u 131, u 132, u 133, u 134, u 135, u 136, u 137, u 138, u 139, u 140, u 141, u 142, u 143, u 144, u 145, u 146, u 147, u 148, u 149, u 150, u 151, u 152, u 153, u 154, u 155, u 156, u 157, u 158, u 159, u 160, u 161, u 162, u 163, u 164, u 165, u 166, u 167, u 168, u 169, u 170, u 171, u 172, u 173, u 174, u 175, u 176, u 177, u 178, u 179, u 180, u 181, u 182, u 183, u 184, u 185, u 186, u 187, u 188, u 189, u 190, u 191, u 192, u 193, u 194, u 195, u 196, u 197, u 198, u 199, u 200, u 201, u 202, u 203, u 204, u 205, u 206, u 207, u 208, u 209, u 210, u 211, u 212, u 213, u 214, u 215, u 216, u 217, u 218, u 219, u 220, u 221, u 222, u 223, u 224, u 225, u 226, u 227, u 228, u 229, u 230, u 231, u 232, u 233, u 234, u 235, u 236, u 237, u 238, u 239, u 240, u 241, u 242, u 243, u 244, u 245, u 246, u 247, u 248, u 249, u 250, u 251, u 252, u 253, u 254, u 255, u 256, u 257, u 258, u 259, u 260, u 261, u 262, u 263, u 264, u 265, u 266, u 267, u 268, u 269, u 270, u 271, u 272, u 273, u 274, u 275, u 276, u 277, u 278, u 279, u 280, u 281, u 282, u 283, u 284, u 285, u 286, u 287, u 288, u 289, u 290, u 291, u 292, u 293, u 294, u 295, u 296, u 297, u 298, u 299, u 300, u 301, u 302, u 303, u 304, u 305, u 306, u 307, u 308, u 309, u 310, u 311, u 312, u 313, u 314, u 315, u 316, u 317, u 318, u 319, u 320, u 321, u 322, u 323, u 324, u 325, u 326, u 327, u 328, u 329, u 330, u 331, u 332, u 333, u 334, u 335, u 336, u 337, u 338, u 339, u 340, u 341, u 342, u 343, u 344, u 345, u 346, u 347] := rfl
noncomputable def loopsRm (n : Nat) : Code := ((Tryz.f28.body.map loopsOf).getD []).getD n .skip
structure RmA (q : Nat) (a : Option Addr) (n e i : Nat) (c : Act) : Prop where
  df : c.defers = []
  sz : c.tmps.size = 348
  s1 : c.tmps.getD 1 undef = .pointer (some ⟨q, 0, none⟩)
  s2 : c.tmps.getD 2 undef = .pointer (some ⟨q + 1, 0, none⟩)
  s5 : c.tmps.getD 5 undef = .slice a n e
  s6 : c.tmps.getD 6 undef = .int .i64 i
set_option maxRecDepth 100000 in
theorem RmA.lit {q : Nat} {a : Option Addr} {n e i : Nat} {c : Act} (h : RmA q a n e i c) : ∃ u : Nat → Value, c = ⟨#[u 0, .pointer (some ⟨q, 0, none⟩), .pointer (some ⟨q + 1, 0, none⟩), u 3, u 4, .slice a n e, .int .i64 i, u 7, u 8, u 9, u 10, u 11, u 12, u 13, u 14, u 15, u 16, u 17, u 18, u 19, u 20, u 21, u 22, u 23, u 24, u 25, u 26, u 27, u 28, u 29, u 30, u 31, u 32, u 33, u 34, u 35, u 36, u 37, u 38, u 39, u 40, u 41, u 42, u 43, u 44, u 45, u 46, u 47, u 48, u 49, u 50, u 51, u 52, u 53, u 54, u 55, u 56, u 57, u 58, u 59, u 60, u 61, u 62, u 63, u 64, u 65, u 66, u 67, u 68, u 69, u 70, u 71, u 72, u 73, u 74, u 75, u 76, u 77, u 78, u 79, u 80, u 81, u 82, u 83, u 84, u 85, u 86, u 87, u 88, u 89, u 90, u 91, u 92, u 93, u 94, u 95, u 96, u 97, u 98, u 99, u 100, u 101, u 102, u 103, u 104, u 105, u 106, u 107, u 108, u 109, u 110, u 111, u 112, u 113, u 114, u 115, u 116, u 117, u 118, u 119, u 120, u 121, u 122, u 123, u 124, u 125, u 126, u 127, u 128, u 129, u 130, u 131, u 132, u 133, u 134, u 135, u 136, u 137, u 138, u 139, u 140, u 141, u 142, u 143, u 144, u 145, u 146, u 147, u 148, u 149, u 150, u 151, u 152, u 153, u 154, u 155, u 156, u 157, u 158, u 159, u 160, u 161, u 162, u 163, u 164, u 165, u 166, u 167, u 168, u 169, u 170, u 171, u 172, u 173, u 174, u 175, u 176, u 177, u 178, u 179, u 180, u 181, u 182, u 183, u 184, u 185, u 186, u 187, u 188, u 189, u 190, u 191, u 192, u 193, u 194, u 195, u 196, u 197, u 198, u 199, u 200, u 201, u 202, u 203, u 204, u 205, u 206, u 207, u 208, u 209, u 210, u 211, u 212, u 213, u 214, u 215, u 216, u 217, u 218, u 219, u 220, u 221, u 222, u 223, u 224, u 225, u 226, u 227, u 228, u 229, u 230, u 231, u 232, u 233, u 234, u 235, u 236, u 237, u 238, u 239, u 240, u 241, u 242, u 243, u 244, u 245, u 246, u 247, u 248, u 249, u 250, u 251, u 252, u 253, u 254, u 255, u 256, u 257, u 258, u 259, u 260, u 261, u 262, u 263, u 264, u 265, u 266, u 267, u 268, u 269, u 270, u 271, u 272, u 273, u 274, u 275, u 276, u 277, u 278, u 279, u 280, u 281, u 282, u 283, u 284, u 285, u 286, u 287, u 288, u 289, u 290, u 291, u 292, u 293, u 294, u 295, u 296, u 297, u 298, u 299, u 300, u 301, u 302, u 303, u 304, u 305, u 306, u 307, u 308, u 309, u 310, u 311, u 312, u 313, u 314, u 315, u 316, u 317, u 318, u 319, u 320, u 321, u 322, u 323, u 324, u 325, u 326, u 327, u 328, u 329, u 330, u 331, u 332, u 333, u 334, u 335, u 336, u 337, u 338, u 339, u 340, u 341, u 342, u 343, u 344, u 345, u 346, u 347], []⟩ := by
  obtain ⟨hd, hs, h1, h2, h5, h6⟩ := h
  refine ⟨fun n => c.tmps.getD n undef, ?_⟩
  obtain ⟨t, d⟩ := c
  simp only at hd hs h1 h2 h5 h6 ⊢
  subst hd
  congr 1
  refine (arr_litRm t hs).trans ?_
  rw [lit_allRm]
  simp only [h1, h2, h5, h6]
structure RmA2 (q : Nat) (a : Option Addr) (n e i : Nat) (E k : Nat) (c : Act) : Prop where
  df : c.defers = []
  sz : c.tmps.size = 348
  s1 : c.tmps.getD 1 undef = .pointer (some ⟨q, 0, none⟩)
  s2 : c.tmps.getD 2 undef = .pointer (some ⟨q + 1, 0, none⟩)
  s5 : c.tmps.getD 5 undef = .slice a n e
  s6 : c.tmps.getD 6 undef = .int .i64 i
  s7 : c.tmps.getD 7 undef = .pointer (some ⟨E, 0, none⟩)
  s8 : c.tmps.getD 8 undef = .int .i64 k
set_option maxRecDepth 100000 in
theorem RmA2.lit {q : Nat} {a : Option Addr} {n e i : Nat} {E k : Nat} {c : Act} (h : RmA2 q a n e i E k c) : ∃ u : Nat → Value, c = ⟨#[u 0, .pointer (some ⟨q, 0, none⟩), .pointer (some ⟨q + 1, 0, none⟩), u 3, u 4, .slice a n e, .int .i64 i, .pointer (some ⟨E, 0, none⟩), .int .i64 k, u 9, u 10, u 11, u 12, u 13, u 14, u 15, u 16, u 17, u 18, u 19, u 20, u 21, u 22, u 23, u 24, u 25, u 26, u 27, u 28, u 29, u 30, u 31, u 32, u 33, u 34, u 35, u 36, u 37, u 38, u 39, u 40, u 41, u 42, u 43, u 44, u 45, u 46, u 47, u 48, u 49, u 50, u 51, u 52, u 53, u 54, u 55, u 56, u 57, u 58, u 59, u 60, u 61, u 62, u 63, u 64, u 65, u 66, u 67, u 68, u 69, u 70, u 71, u 72, u 73, u 74, u 75, u 76, u 77, u 78, u 79, u 80, u 81, u 82, u 83, u 84, u 85, u 86, u 87, u 88, u 89, u 90, u 91, u 92, u 93, u 94, u 95, u 96, u 97, u 98, u 99, u 100, u 101, u 102, u 103, u 104, u 105, u 106, u 107, u 108, u 109, u 110, u 111, u 112, u 113, u 114, u 115, u 116, u 117, u 118, u 119, u 120, u 121, u 122, u 123, u 124, u 125, u 126, u 127, u 128, u 129, u 130, u 131, u 132, u 133, u 134, u 135, u 136, u 137, u 138, u 139, u 140, u 141, u 142, u 143, u 144, u 145, u 146, u 147, u 148, u 149, u 150, u 151, u 152, u 153, u 154, u 155, u 156, u 157, u 158, u 159, u 160, u 161, u 162, u 163, u 164, u 165, u 166, u 167, u 168, u 169, u 170, u 171, u 172, u 173, u 174, u 175, u 176, u 177, u 178, u 179, u 180, u 181, u 182, u 183, u 184, u 185, u 186, u 187, u 188, u 189, u 190, u 191, u 192, u 193, u 194, u 195, u 196, u 197, u 198, u 199, u 200, u 201, u 202, u 203, u 204, u 205, u 206, u 207, u 208, u 209, u 210, u 211, u 212, u 213, u 214, u 215, u 216, u 217, u 218, u 219, u 220, u 221, u 222, u 223, u 224, u 225, u 226, u 227, u 228, u 229, u 230, u 231, u 232, u 233, u 234, u 235, u 236, u 237, u 238, u 239, u 240, u 241, u 242, u 243, u 244, u 245, u 246, u 247, u 248, u 249, u 250, u 251, u 252, u 253, u 254, u 255, u 256, u 257, u 258, u 259, u 260, u 261, u 262, u 263, u 264, u 265, u 266, u 267, u 268, u 269, u 270, u 271, u 272, u 273, u 274, u 275, u 276, u 277, u 278, u 279, u 280, u 281, u 282, u 283, u 284, u 285, u 286, u 287, u 288, u 289, u 290, u 291, u 292, u 293, u 294, u 295, u 296, u 297, u 298, u 299, u 300, u 301, u 302, u 303, u 304, u 305, u 306, u 307, u 308, u 309, u 310, u 311, u 312, u 313, u 314, u 315, u 316, u 317, u 318, u 319, u 320, u 321, u 322, u 323, u 324, u 325, u 326, u 327, u 328, u 329, u 330, u 331, u 332, u 333, u 334, u 335, u 336, u 337, u 338, u 339, u 340, u 341, u 342, u 343, u 344, u 345, u 346, u 347], []⟩ := by
  obtain ⟨hd, hs, h1, h2, h5, h6, h7, h8⟩ := h
  refine ⟨fun n => c.tmps.getD n undef, ?_⟩
  obtain ⟨t, d⟩ := c
  simp only at hd hs h1 h2 h5 h6 h7 h8 ⊢
  subst hd
  congr 1
  refine (arr_litRm t hs).trans ?_
  rw [lit_allRm]
  simp only [h1, h2, h5, h6, h7, h8]
structure RmA3 (q : Nat) (a : Option Addr) (n e i : Nat) (E k x : Nat) (c : Act) : Prop where
  df : c.defers = []
  sz : c.tmps.size = 348
  s1 : c.tmps.getD 1 undef = .pointer (some ⟨q, 0, none⟩)
  s2 : c.tmps.getD 2 undef = .pointer (some ⟨q + 1, 0, none⟩)
  s5 : c.tmps.getD 5 undef = .slice a n e
  s6 : c.tmps.getD 6 undef = .int .i64 i
  s7 : c.tmps.getD 7 undef = .pointer (some ⟨E, 0, none⟩)
  s8 : c.tmps.getD 8 undef = .int .i64 k
  s9 : c.tmps.getD 9 undef = .int .i64 x
set_option maxRecDepth 100000 in
theorem RmA3.lit {q : Nat} {a : Option Addr} {n e i : Nat} {E k x : Nat} {c : Act} (h : RmA3 q a n e i E k x c) : ∃ u : Nat → Value, c = ⟨#[u 0, .pointer (some ⟨q, 0, none⟩), .pointer (some ⟨q + 1, 0, none⟩), u 3, u 4, .slice a n e, .int .i64 i, .pointer (some ⟨E, 0, none⟩), .int .i64 k, .int .i64 x, u 10, u 11, u 12, u 13, u 14, u 15, u 16, u 17, u 18, u 19, u 20, u 21, u 22, u 23, u 24, u 25, u 26, u 27, u 28, u 29, u 30, u 31, u 32, u 33, u 34, u 35, u 36, u 37, u 38, u 39, u 40, u 41, u 42, u 43, u 44, u 45, u 46, u 47, u 48, u 49, u 50, u 51, u 52, u 53, u 54, u 55, u 56, u 57, u 58, u 59, u 60, u 61, u 62, u 63, u 64, u 65, u 66, u 67, u 68, u 69, u 70, u 71, u 72, u 73, u 74, u 75, u 76, u 77, u 78, u 79, u 80, u 81, u 82, u 83, u 84, u 85, u 86, u 87, u 88, u 89, u 90, u 91, u 92, u 93, u 94, u 95, u 96, u 97, u 98, u 99, u 100, u 101, u 102, u 103, u 104, u 105, u 106, u 107, u 108, u 109, u 110, u 111, u 112, u 113, u 114, u 115, u 116, u 117, u 118, u 119, u 120, u 121, u 122, u 123, u 124, u 125, u 126, u 127, u 128, u 129, u 130, u 131, u 132, u 133, u 134, u 135, u 136, u 137, u 138, u 139, u 140, u 141, u 142, u 143, u 144, u 145, u 146, u 147, u 148, u 149, u 150, u 151, u 152, u 153, u 154, u 155, u 156, u 157, u 158, u 159, u 160, u 161, u 162, u 163, u 164, u 165, u 166, u 167, u 168, u 169, u 170, u 171, u 172, u 173, u 174, u 175, u 176, u 177, u 178, u 179, u 180, u 181, u 182, u 183, u 184, u 185, u 186, u 187, u 188, u 189, u 190, u 191, u 192, u 193, u 194, u 195, u 196, u 197, u 198, u 199, u 200, u 201, u 202, u 203, u 204, u 205, u 206, u 207, u 208, u 209, u 210, u 211, u 212, u 213, u 214, u 215, u 216, u 217, u 218, u 219, u 220, u 221, u 222, u 223, u 224, u 225, u 226, u 227, u 228, u 229, u 230, u 231, u 232, u 233, u 234, u 235, u 236, u 237, u 238, u 239, u 240, u 241, u 242, u 243, u 244, u 245, u 246, u 247, u 248, u 249, u 250, u 251, u 252, u 253, u 254, u 255, u 256, u 257, u 258, u 259, u 260, u 261, u 262, u 263, u 264, u 265, u 266, u 267, u 268, u 269, u 270, u 271, u 272, u 273, u 274, u 275, u 276, u 277, u 278, u 279, u 280, u 281, u 282, u 283, u 284, u 285, u 286, u 287, u 288, u 289, u 290, u 291, u 292, u 293, u 294, u 295, u 296, u 297, u 298, u 299, u 300, u 301, u 302, u 303, u 304, u 305, u 306, u 307, u 308, u 309, u 310, u 311, u 312, u 313, u 314, u 315, u 316, u 317, u 318, u 319, u 320, u 321, u 322, u 323, u 324, u 325, u 326, u 327, u 328, u 329, u 330, u 331, u 332, u 333, u 334, u 335, u 336, u 337, u 338, u 339, u 340, u 341, u 342, u 343, u 344, u 345, u 346, u 347], []⟩ := by
  obtain ⟨hd, hs, h1, h2, h5, h6, h7, h8, h9⟩ := h
  refine ⟨fun n => c.tmps.getD n undef, ?_⟩
  obtain ⟨t, d⟩ := c
  simp only at hd hs h1 h2 h5 h6 h7 h8 h9 ⊢
  subst hd
  congr 1
  refine (arr_litRm t hs).trans ?_
  rw [lit_allRm]
  simp only [h1, h2, h5, h6, h7, h8, h9]
structure RmB (q : Nat) (a : Option Addr) (n e i : Nat) (c : Act) : Prop where
  df : c.defers = []
  sz : c.tmps.size = 348
  s1 : c.tmps.getD 1 undef = .pointer (some ⟨q, 0, none⟩)
  s2 : c.tmps.getD 2 undef = .pointer (some ⟨q + 1, 0, none⟩)
  s5 : c.tmps.getD 5 undef = .slice a n e
  s10 : c.tmps.getD 10 undef = .int .i64 i
set_option maxRecDepth 100000 in
theorem RmB.lit {q : Nat} {a : Option Addr} {n e i : Nat} {c : Act} (h : RmB q a n e i c) : ∃ u : Nat → Value, c = ⟨#[u 0, .pointer (some ⟨q, 0, none⟩), .pointer (some ⟨q + 1, 0, none⟩), u 3, u 4, .slice a n e, u 6, u 7, u 8, u 9, .int .i64 i, u 11, u 12, u 13, u 14, u 15, u 16, u 17, u 18, u 19, u 20, u 21, u 22, u 23, u 24, u 25, u 26, u 27, u 28, u 29, u 30, u 31, u 32, u 33, u 34, u 35, u 36, u 37, u 38, u 39, u 40, u 41, u 42, u 43, u 44, u 45, u 46, u 47, u 48, u 49, u 50, u 51, u 52, u 53, u 54, u 55, u 56, u 57, u 58, u 59, u 60, u 61, u 62, u 63, u 64, u 65, u 66, u 67, u 68, u 69, u 70, u 71, u 72, u 73, u 74, u 75, u 76, u 77, u 78, u 79, u 80, u 81, u 82, u 83, u 84, u 85, u 86, u 87, u 88, u 89, u 90, u 91, u 92, u 93, u 94, u 95, u 96, u 97, u 98, u 99, u 100, u 101, u 102, u 103, u 104, u 105, u 106, u 107, u 108, u 109, u 110, u 111, u 112, u 113, u 114, u 115, u 116, u 117, u 118, u 119, u 120, u 121, u 122, u 123, u 124, u 125, u 126, u 127, u 128, u 129, u 130, u 131, u 132, u 133, u 134, u 135, u 136, u 137, u 138, u 139, u 140, u 141, u 142, u 143, u 144, u 145, u 146, u 147, u 148, u 149, u 150, u 151, u 152, u 153, u 154, u 155, u 156, u 157, u 158, u 159, u 160, u 161, u 162, u 163, u 164, u 165, u 166, u 167, u 168, u 169, u 170, u 171, u 172, u 173, u 174, u 175, u 176, u 177, u 178, u 179, u 180, u 181, u 182, u 183, u 184, u 185, u 186, u 187, u 188, u 189, u 190, u 191, u 192, u 193, u 194, u 195, u 196, u 197, u 198, u 199, u 200, u 201, u 202, u 203, u 204, u 205, u 206, u 207, u 208, u 209, u 210, u 211, u 212, u 213, u 214, u 215, u 216, u 217, u 218, u 219, u 220, u 221, u 222, u 223, u 224, u 225, u 226, u 227, u 228, u 229, u 230, u 231, u 232, u 233, u 234, u 235, u 236, u 237, u 238, u 239, u 240, u 241, u 242, u 243, u 244, u 245, u 246, u 247, u 248, u 249, u 250, u 251, u 252, u 253, u 254, u 255, u 256, u 257, u 258, u 259, u 260, u 261, u 262, u 263, u 264, u 265, u 266, u 267, u 268, u 269, u 270, u 271, u 272, u 273, u 274, u 275, u 276, u 277, u 278, u 279, u 280, u 281, u 282, u 283, u 284, u 285, u 286, u 287, u 288, u 289, u 290, u 291, u 292, u 293, u 294, u 295, u 296, u 297, u 298, u 299, u 300, u 301, u 302, u 303, u 304, u 305, u 306, u 307, u 308, u 309, u 310, u 311, u 312, u 313, u 314, u 315, u 316, u 317, u 318, u 319, u 320, u 321, u 322, u 323, u 324, u 325, u 326, u 327, u 328, u 329, u 330, u 331, u 332, u 333, u 334, u 335, u 336, u 337, u 338, u 339, u 340, u 341, u 342, u 343, u 344, u 345, u 346, u 347], []⟩ := by
  obtain ⟨hd, hs, h1, h2, h5, h10⟩ := h
  refine ⟨fun n => c.tmps.getD n undef, ?_⟩
  obtain ⟨t, d⟩ := c
  simp only at hd hs h1 h2 h5 h10 ⊢
  subst hd
  congr 1
  refine (arr_litRm t hs).trans ?_
  rw [lit_allRm]
  simp only [h1, h2, h5, h10]
structure RmB2 (q : Nat) (a : Option Addr) (n e i : Nat) (E k : Nat) (c : Act) : Prop where
  df : c.defers = []
  sz : c.tmps.size = 348
  s1 : c.tmps.getD 1 undef = .pointer (some ⟨q, 0, none⟩)
  s2 : c.tmps.getD 2 undef = .pointer (some ⟨q + 1, 0, none⟩)
  s5 : c.tmps.getD 5 undef = .slice a n e
  s10 : c.tmps.getD 10 undef = .int .i64 i
  s11 : c.tmps.getD 11 undef = .pointer (some ⟨E, 0, none⟩)
  s12 : c.tmps.getD 12 undef = .int .i64 k
set_option maxRecDepth 100000 in
theorem RmB2.lit {q : Nat} {a : Option Addr} {n e i : Nat} {E k : Nat} {c : Act} (h : RmB2 q a n e i E k c) : ∃ u : Nat → Value, c = ⟨#[u 0, .pointer (some ⟨q, 0, none⟩), .pointer (some ⟨q + 1, 0, none⟩), u 3, u 4, .slice a n e, u 6, u 7, u 8, u 9, .int .i64 i, .pointer (some ⟨E, 0, none⟩), .int .i64 k, u 13, u 14, u 15, u 16, u 17, u 18, u 19, u 20, u 21, u 22, u 23, u 24, u 25, u 26, u 27, u 28, u 29, u 30, u 31, u 32, u 33, u 34, u 35, u 36, u 37, u 38, u 39, u 40, u 41, u 42, u 43, u 44, u 45, u 46, u 47, u 48, u 49, u 50, u 51, u 52, u 53, u 54, u 55, u 56, u 57, u 58, u 59, u 60, u 61, u 62, u 63, u 64, u 65, u 66, u 67, u 68, u 69, u 70, u 71, u 72, u 73, u 74, u 75, u 76, u 77, u 78, u 79, u 80, u 81, u 82, u 83, u 84, u 85, u 86, u 87, u 88, u 89, u 90, u 91, u 92, u 93, u 94, u 95, u 96, u 97, u 98, u 99, u 100, u 101, u 102, u 103, u 104, u 105, u 106, u 107, u 108, u 109, u 110, u 111, u 112, u 113, u 114, u 115, u 116, u 117, u 118, u 119, u 120, u 121, u 122, u 123, u 124, u 125, u 126, u 127, u 128, u 129, u 130, u 131, u 132, u 133, u 134, u 135, u 136, u 137, u 138, u 139, u 140, u 141, u 142, u 143, u 144, u 145, u 146, u 147, u 148, u 149, u 150, u 151, u 152, u 153, u 154, u 155, u 156, u 157, u 158, u 159, u 160, u 161, u 162, u 163, u 164, u 165, u 166, u 167, u 168, u 169, u 170, u 171, u 172, u 173, u 174, u 175, u 176, u 177, u 178, u 179, u 180, u 181, u 182, u 183, u 184, u 185, u 186, u 187, u 188, u 189, u 190, u 191, u 192, u 193, u 194, u 195, u 196, u 197, u 198, u 199, u 200, u 201, u 202, u 203, u 204, u 205, u 206, u 207, u 208, u 209, u 210, u 211, u 212, u 213, u 214, u 215, u 216, u 217, u 218, u 219, u 220, u 221, u 222, u 223, u 224, u 225, u 226, u 227, u 228, u 229, u 230, u 231, u 232, u 233, u 234, u 235, u 236, u 237, u 238, u 239, u 240, u 241, u 242, u 243, u 244, u 245, u 246, u 247, u 248, u 249, u 250, u 251, u 252, u 253, u 254, u 255, u 256, u 257, u 258, u 259, u 260, u 261, u 262, u 263, u 264, u 265, u 266, u 267, u 268, u 269, u 270, u 271, u 272, u 273, u 274, u 275, u 276, u 277, u 278, u 279, u 280, u 281, u 282, u 283, u 284, u 285, u 286, u 287, u 288, u 289, u 290, u 291, u 292, u 293, u 294, u 295, u 296, u 297, u 298, u 299, u 300, u 301, u 302, u 303, u 304, u 305, u 306, u 307, u 308, u 309, u 310, u 311, u 312, u 313, u 314, u 315, u 316, u 317, u 318, u 319, u 320, u 321, u 322, u 323, u 324, u 325, u 326, u 327, u 328, u 329, u 330, u 331, u 332, u 333, u 334, u 335, u 336, u 337, u 338, u 339, u 340, u 341, u 342, u 343, u 344, u 345, u 346, u 347], []⟩ := by
  obtain ⟨hd, hs, h1, h2, h5, h10, h11, h12⟩ := h
  refine ⟨fun n => c.tmps.getD n undef, ?_⟩
  obtain ⟨t, d⟩ := c
  simp only at hd hs h1 h2 h5 h10 h11 h12 ⊢
  subst hd
  congr 1
  refine (arr_litRm t hs).trans ?_
  rw [lit_allRm]
  simp only [h1, h2, h5, h10, h11, h12]
structure RmB3 (q : Nat) (a : Option Addr) (n e i : Nat) (E k x : Nat) (c : Act) : Prop where
  df : c.defers = []
  sz : c.tmps.size = 348
  s1 : c.tmps.getD 1 undef = .pointer (some ⟨q, 0, none⟩)
  s2 : c.tmps.getD 2 undef = .pointer (some ⟨q + 1, 0, none⟩)
  s5 : c.tmps.getD 5 undef = .slice a n e
  s10 : c.tmps.getD 10 undef = .int .i64 i
  s11 : c.tmps.getD 11 undef = .pointer (some ⟨E, 0, none⟩)
  s12 : c.tmps.getD 12 undef = .int .i64 k
  s13 : c.tmps.getD 13 undef = .int .i64 x
set_option maxRecDepth 100000 in
theorem RmB3.lit {q : Nat} {a : Option Addr} {n e i : Nat} {E k x : Nat} {c : Act} (h : RmB3 q a n e i E k x c) : ∃ u : Nat → Value, c = ⟨#[u 0, .pointer (some ⟨q, 0, none⟩), .pointer (some ⟨q + 1, 0, none⟩), u 3, u 4, .slice a n e, u 6, u 7, u 8, u 9, .int .i64 i, .pointer (some ⟨E, 0, none⟩), .int .i64 k, .int .i64 x, u 14, u 15, u 16, u 17, u 18, u 19, u 20, u 21, u 22, u 23, u 24, u 25, u 26, u 27, u 28, u 29, u 30, u 31, u 32, u 33, u 34, u 35, u 36, u 37, u 38, u 39, u 40, u 41, u 42, u 43, u 44, u 45, u 46, u 47, u 48, u 49, u 50, u 51, u 52, u 53, u 54, u 55, u 56, u 57, u 58, u 59, u 60, u 61, u 62, u 63, u 64, u 65, u 66, u 67, u 68, u 69, u 70, u 71, u 72, u 73, u 74, u 75, u 76, u 77, u 78, u 79, u 80, u 81, u 82, u 83, u 84, u 85, u 86, u 87, u 88, u 89, u 90, u 91, u 92, u 93, u 94, u 95, u 96, u 97, u 98, u 99, u 100, u 101, u 102, u 103, u 104, u 105, u 106, u 107, u 108, u 109, u 110, u 111, u 112, u 113, u 114, u 115, u 116, u 117, u 118, u 119, u 120, u 121, u 122, u 123, u 124, u 125, u 126, u 127, u 128, u 129, u 130, u 131, u 132, u 133, u 134, u 135, u 136, u 137, u 138, u 139, u 140, u 141, u 142, u 143, u 144, u 145, u 146, u 147, u 148, u 149, u 150, u 151, u 152, u 153, u 154, u 155, u 156, u 157, u 158, u 159, u 160, u 161, u 162, u 163, u 164, u 165, u 166, u 167, u 168, u 169, u 170, u 171, u 172, u 173, u 174, u 175, u 176, u 177, u 178, u 179, u 180, u 181, u 182, u 183, u 184, u 185, u 186, u 187, u 188, u 189, u 190, u 191, u 192, u 193, u 194, u 195, u 196, u 197, u 198, u 199, u 200, u 201, u 202, u 203, u 204, u 205, u 206, u 207, u 208, u 209, u 210, u 211, u 212, u 213, u 214, u 215, u 216, u 217, u 218, u 219, u 220, u 221, u 222, u 223, u 224, u 225, u 226, u 227, u 228, u 229, u 230, u 231, u 232, u 233, u 234, u 235, u 236, u 237, u 238, u 239, u 240, u 241, u 242, u 243, u 244, u 245, u 246, u 247, u 248, u 249, u 250, u 251, u 252, u 253, u 254, u 255, u 256, u 257, u 258, u 259, u 260, u 261, u 262, u 263, u 264, u 265, u 266, u 267, u 268, u 269, u 270, u 271, u 272, u 273, u 274, u 275, u 276, u 277, u 278, u 279, u 280, u 281, u 282, u 283, u 284, u 285, u 286, u 287, u 288, u 289, u 290, u 291, u 292, u 293, u 294, u 295, u 296, u 297, u 298, u 299, u 300, u 301, u 302, u 303, u 304, u 305, u 306, u 307, u 308, u 309, u 310, u 311, u 312, u 313, u 314, u 315, u 316, u 317, u 318, u 319, u 320, u 321, u 322, u 323, u 324, u 325, u 326, u 327, u 328, u 329, u 330, u 331, u 332, u 333, u 334, u 335, u 336, u 337, u 338, u 339, u 340, u 341, u 342, u 343, u 344, u 345, u 346, u 347], []⟩ := by
  obtain ⟨hd, hs, h1, h2, h5, h10, h11, h12, h13⟩ := h
  refine ⟨fun n => c.tmps.getD n undef, ?_⟩
  obtain ⟨t, d⟩ := c
  simp only at hd hs h1 h2 h5 h10 h11 h12 h13 ⊢
  subst hd
  congr 1
  refine (arr_litRm t hs).trans ?_
  rw [lit_allRm]
  simp only [h1, h2, h5, h10, h11, h12, h13]
structure RmC (q : Nat) (S i : Nat) (c : Act) : Prop where
  df : c.defers = []
  sz : c.tmps.size = 348
  s1 : c.tmps.getD 1 undef = .pointer (some ⟨q, 0, none⟩)
  s2 : c.tmps.getD 2 undef = .pointer (some ⟨q + 1, 0, none⟩)
  s14 : c.tmps.getD 14 undef = .pointer (some ⟨S, 0, none⟩)
  s15 : c.tmps.getD 15 undef = .int .i64 i
set_option maxRecDepth 100000 in
theorem RmC.lit {q : Nat} {S i : Nat} {c : Act} (h : RmC q S i c) : ∃ u : Nat → Value, c = ⟨#[u 0, .pointer (some ⟨q, 0, none⟩), .pointer (some ⟨q + 1, 0, none⟩), u 3, u 4, u 5, u 6, u 7, u 8, u 9, u 10, u 11, u 12, u 13, .pointer (some ⟨S, 0, none⟩), .int .i64 i, u 16, u 17, u 18, u 19, u 20, u 21, u 22, u 23, u 24, u 25, u 26, u 27, u 28, u 29, u 30, u 31, u 32, u 33, u 34, u 35, u 36, u 37, u 38, u 39, u 40, u 41, u 42, u 43, u 44, u 45, u 46, u 47, u 48, u 49, u 50, u 51, u 52, u 53, u 54, u 55, u 56, u 57, u 58, u 59, u 60, u 61, u 62, u 63, u 64, u 65, u 66, u 67, u 68, u 69, u 70, u 71, u 72, u 73, u 74, u 75, u 76, u 77, u 78, u 79, u 80, u 81, u 82, u 83, u 84, u 85, u 86, u 87, u 88, u 89, u 90, u 91, u 92, u 93, u 94, u 95, u 96, u 97, u 98, u 99, u 100, u 101, u 102, u 103, u 104, u 105, u 106, u 107, u 108, u 109, u 110, u 111, u 112, u 113, u 114, u 115, u 116, u 117, u 118, u 119, u 120, u 121, u 122, u 123, u 124, u 125, u 126, u 127, u 128, u 129, u 130, u 131, u 132, u 133, u 134, u 135, u 136, u 137, u 138, u 139, u 140, u 141, u 142, u 143, u 144, u 145, u 146, u 147, u 148, u 149, u 150, u 151, u 152, u 153, u 154, u 155, u 156, u 157, u 158, u 159, u 160, u 161, u 162, u 163, u 164, u 165, u 166, u 167, u 168, u 169, u 170, u 171, u 172, u 173, u 174, u 175, u 176, u 177, u 178, u 179, u 180, u 181, u 182, u 183, u 184, u 185, u 186, u 187, u 188, u 189, u 190, u 191, u 192, u 193, u 194, u 195, u 196, u 197, u 198, u 199, u 200, u 201, u 202, u 203, u 204, u 205, u 206, u 207, u 208, u 209, u 210, u 211, u 212, u 213, u 214, u 215, u 216, u 217, u 218, u 219, u 220, u 221, u 222, u 223, u 224, u 225, u 226, u 227, u 228, u 229, u 230, u 231, u 232, u 233, u 234, u 235, u 236, u 237, u 238, u 239, u 240, u 241, u 242, u 243, u 244, u 245, u 246, u 247, u 248, u 249, u 250, u 251, u 252, u 253, u 254, u 255, u 256, u 257, u 258, u 259, u 260, u 261, u 262, u 263, u 264, u 265, u 266, u 267, u 268, u 269, u 270, u 271, u 272, u 273, u 274, u 275, u 276, u 277, u 278, u 279, u 280, u 281, u 282, u 283, u 284, u 285, u 286, u 287, u 288, u 289, u 290, u 291, u 292, u 293, u 294, u 295, u 296, u 297, u 298, u 299, u 300, u 301, u 302, u 303, u 304, u 305, u 306, u 307, u 308, u 309, u 310, u 311, u 312, u 313, u 314, u 315, u 316, u 317, u 318, u 319, u 320, u 321, u 322, u 323, u 324, u 325, u 326, u 327, u 328, u 329, u 330, u 331, u 332, u 333, u 334, u 335, u 336, u 337, u 338, u 339, u 340, u 341, u 342, u 343, u 344, u 345, u 346, u 347], []⟩ := by
  obtain ⟨hd, hs, h1, h2, h14, h15⟩ := h
  refine ⟨fun n => c.tmps.getD n undef, ?_⟩
  obtain ⟨t, d⟩ := c
  simp only at hd hs h1 h2 h14 h15 ⊢
  subst hd
  congr 1
  refine (arr_litRm t hs).trans ?_
  rw [lit_allRm]
  simp only [h1, h2, h14, h15]
structure RmC2 (q : Nat) (S i T k : Nat) (c : Act) : Prop where
  df : c.defers = []
  sz : c.tmps.size = 348
  s1 : c.tmps.getD 1 undef = .pointer (some ⟨q, 0, none⟩)
  s2 : c.tmps.getD 2 undef = .pointer (some ⟨q + 1, 0, none⟩)
  s14 : c.tmps.getD 14 undef = .pointer (some ⟨S, 0, none⟩)
  s15 : c.tmps.getD 15 undef = .int .i64 i
  s16 : c.tmps.getD 16 undef = .pointer (some ⟨T, 0, none⟩)
  s17 : c.tmps.getD 17 undef = .int .i64 k
set_option maxRecDepth 100000 in
theorem RmC2.lit {q : Nat} {S i T k : Nat} {c : Act} (h : RmC2 q S i T k c) : ∃ u : Nat → Value, c = ⟨#[u 0, .pointer (some ⟨q, 0, none⟩), .pointer (some ⟨q + 1, 0, none⟩), u 3, u 4, u 5, u 6, u 7, u 8, u 9, u 10, u 11, u 12, u 13, .pointer (some ⟨S, 0, none⟩), .int .i64 i, .pointer (some ⟨T, 0, none⟩), .int .i64 k, u 18, u 19, u 20, u 21, u 22, u 23, u 24, u 25, u 26, u 27, u 28, u 29, u 30, u 31, u 32, u 33, u 34, u 35, u 36, u 37, u 38, u 39, u 40, u 41, u 42, u 43, u 44, u 45, u 46, u 47, u 48, u 49, u 50, u 51, u 52, u 53, u 54, u 55, u 56, u 57, u 58, u 59, u 60, u 61, u 62, u 63, u 64, u 65, u 66, u 67, u 68, u 69, u 70, u 71, u 72, u 73, u 74, u 75, u 76, u 77, u 78, u 79, u 80, u 81, u 82, u 83, u 84, u 85, u 86, u 87, u 88, u 89, u 90, u 91, u 92, u 93, u 94, u 95, u 96, u 97, u 98, u 99, u 100, u 101, u 102, u 103, u 104, u 105, u 106, u 107, u 108, u 109, u 110, u 111, u 112, u 113, u 114, u 115, u 116, u 117, u 118, u 119, u 120, u 121, u 122, u 123, u 124, u 125, u 126, u 127, u 128, u 129, u 130, u 131, u 132, u 133, u 134, u 135, u 136, u 137, u 138, u 139, u 140, u 141, u 142, u 143, u 144, u 145, u 146, u 147, u 148, u 149, u 150, u 151, u 152, u 153, u 154, u 155, u 156, u 157, u 158, u 159, u 160, u 161, u 162, u 163, u 164, u 165, u 166, u 167, u 168, u 169, u 170, u 171, u 172, u 173, u 174, u 175, u 176, u 177, u 178, u 179, u 180, u 181, u 182, u 183, u 184, u 185, u 186, u 187, u 188, u 189, u 190, u 191, u 192, u 193, u 194, u 195, u 196, u 197, u 198, u 199, u 200, u 201, u 202, u 203, u 204, u 205, u 206, u 207, u 208, u 209, u 210, u 211, u 212, u 213, u 214, u 215, u 216, u 217, u 218, u 219, u 220, u 221, u 222, u 223, u 224, u 225, u 226, u 227, u 228, u 229, u 230, u 231, u 232, u 233, u 234, u 235, u 236, u 237, u 238, u 239, u 240, u 241, u 242, u 243, u 244, u 245, u 246, u 247, u 248, u 249, u 250, u 251, u 252, u 253, u 254, u 255, u 256, u 257, u 258, u 259, u 260, u 261, u 262, u 263, u 264, u 265, u 266, u 267, u 268, u 269, u 270, u 271, u 272, u 273, u 274, u 275, u 276, u 277, u 278, u 279, u 280, u 281, u 282, u 283, u 284, u 285, u 286, u 287, u 288, u 289, u 290, u 291, u 292, u 293, u 294, u 295, u 296, u 297, u 298, u 299, u 300, u 301, u 302, u 303, u 304, u 305, u 306, u 307, u 308, u 309, u 310, u 311, u 312, u 313, u 314, u 315, u 316, u 317, u 318, u 319, u 320, u 321, u 322, u 323, u 324, u 325, u 326, u 327, u 328, u 329, u 330, u 331, u 332, u 333, u 334, u 335, u 336, u 337, u 338, u 339, u 340, u 341, u 342, u 343, u 344, u 345, u 346, u 347], []⟩ := by
  obtain ⟨hd, hs, h1, h2, h14, h15, h16, h17⟩ := h
  refine ⟨fun n => c.tmps.getD n undef, ?_⟩
  obtain ⟨t, d⟩ := c
  simp only at hd hs h1 h2 h14 h15 h16 h17 ⊢
  subst hd
  congr 1
  refine (arr_litRm t hs).trans ?_
  rw [lit_allRm]
  simp only [h1, h2, h14, h15, h16, h17]
structure RmD (q : Nat) (S i : Nat) (c : Act) : Prop where
  df : c.defers = []
  sz : c.tmps.size = 348
  s1 : c.tmps.getD 1 undef = .pointer (some ⟨q, 0, none⟩)
  s2 : c.tmps.getD 2 undef = .pointer (some ⟨q + 1, 0, none⟩)
  s14 : c.tmps.getD 14 undef = .pointer (some ⟨S, 0, none⟩)
  s18 : c.tmps.getD 18 undef = .int .i64 i
set_option maxRecDepth 100000 in
theorem RmD.lit {q : Nat} {S i : Nat} {c : Act} (h : RmD q S i c) : ∃ u : Nat → Value, c = ⟨#[u 0, .pointer (some ⟨q, 0, none⟩), .pointer (some ⟨q + 1, 0, none⟩), u 3, u 4, u 5, u 6, u 7, u 8, u 9, u 10, u 11, u 12, u 13, .pointer (some ⟨S, 0, none⟩), u 15, u 16, u 17, .int .i64 i, u 19, u 20, u 21, u 22, u 23, u 24, u 25, u 26, u 27, u 28, u 29, u 30, u 31, u 32, u 33, u 34, u 35, u 36, u 37, u 38, u 39, u 40, u 41, u 42, u 43, u 44, u 45, u 46, u 47, u 48, u 49, u 50, u 51, u 52, u 53, u 54, u 55, u 56, u 57, u 58, u 59, u 60, u 61, u 62, u 63, u 64, u 65, u 66, u 67, u 68, u 69, u 70, u 71, u 72, u 73, u 74, u 75, u 76, u 77, u 78, u 79, u 80, u 81, u 82, u 83, u 84, u 85, u 86, u 87, u 88, u 89, u 90, u 91, u 92, u 93, u 94, u 95, u 96, u 97, u 98, u 99, u 100, u 101, u 102, u 103, u 104, u 105, u 106, u 107, u 108, u 109, u 110, u 111, u 112, u 113, u 114, u 115, u 116, u 117, u 118, u 119, u 120, u 121, u 122, u 123, u 124, u 125, u 126, u 127, u 128, u 129, u 130, u 131, u 132, u 133, u 134, u 135, u 136, u 137, u 138, u 139, u 140, u 141, u 142, u 143, u 144, u 145, u 146, u 147, u 148, u 149, u 150, u 151, u 152, u 153, u 154, u 155, u 156, u 157, u 158, u 159, u 160, u 161, u 162, u 163, u 164, u 165, u 166, u 167, u 168, u 169, u 170, u 171, u 172, u 173, u 174, u 175, u 176, u 177, u 178, u 179, u 180, u 181, u 182, u 183, u 184, u 185, u 186, u 187, u 188, u 189, u 190, u 191, u 192, u 193, u 194, u 195, u 196, u 197, u 198, u 199, u 200, u 201, u 202, u 203, u 204, u 205, u 206, u 207, u 208, u 209, u 210, u 211, u 212, u 213, u 214, u 215, u 216, u 217, u 218, u 219, u 220, u 221, u 222, u 223, u 224, u 225, u 226, u 227, u 228, u 229, u 230, u 231, u 232, u 233, u 234, u 235, u 236, u 237, u 238, u 239, u 240, u 241, u 242, u 243, u 244, u 245, u 246, u 247, u 248, u 249, u 250, u 251, u 252, u 253, u 254, u 255, u 256, u 257, u 258, u 259, u 260, u 261, u 262, u 263, u 264, u 265, u 266, u 267, u 268, u 269, u 270, u 271, u 272, u 273, u 274, u 275, u 276, u 277, u 278, u 279, u 280, u 281, u 282, u 283, u 284, u 285, u 286, u 287, u 288, u 289, u 290, u 291, u 292, u 293, u 294, u 295, u 296, u 297, u 298, u 299, u 300, u 301, u 302, u 303, u 304, u 305, u 306, u 307, u 308, u 309, u 310, u 311, u 312, u 313, u 314, u 315, u 316, u 317, u 318, u 319, u 320, u 321, u 322, u 323, u 324, u 325, u 326, u 327, u 328, u 329, u 330, u 331, u 332, u 333, u 334, u 335, u 336, u 337, u 338, u 339, u 340, u 341, u 342, u 343, u 344, u 345, u 346, u 347], []⟩ := by
  obtain ⟨hd, hs, h1, h2, h14, h18⟩ := h
  refine ⟨fun n => c.tmps.getD n undef, ?_⟩
  obtain ⟨t, d⟩ := c
  simp only at hd hs h1 h2 h14 h18 ⊢
  subst hd
  congr 1
  refine (arr_litRm t hs).trans ?_
  rw [lit_allRm]
  simp only [h1, h2, h14, h18]
structure RmD2 (q : Nat) (S i T k : Nat) (c : Act) : Prop where
  df : c.defers = []
  sz : c.tmps.size = 348
  s1 : c.tmps.getD 1 undef = .pointer (some ⟨q, 0, none⟩)
  s2 : c.tmps.getD 2 undef = .pointer (some ⟨q + 1, 0, none⟩)
  s14 : c.tmps.getD 14 undef = .pointer (some ⟨S, 0, none⟩)
  s18 : c.tmps.getD 18 undef = .int .i64 i
  s19 : c.tmps.getD 19 undef = .pointer (some ⟨T, 0, none⟩)
  s20 : c.tmps.getD 20 undef = .int .i64 k
set_option maxRecDepth 100000 in
theorem RmD2.lit {q : Nat} {S i T k : Nat} {c : Act} (h : RmD2 q S i T k c) : ∃ u : Nat → Value, c = ⟨#[u 0, .pointer (some ⟨q, 0, none⟩), .pointer (some ⟨q + 1, 0, none⟩), u 3, u 4, u 5, u 6, u 7, u 8, u 9, u 10, u 11, u 12, u 13, .pointer (some ⟨S, 0, none⟩), u 15, u 16, u 17, .int .i64 i, .pointer (some ⟨T, 0, none⟩), .int .i64 k, u 21, u 22, u 23, u 24, u 25, u 26, u 27, u 28, u 29, u 30, u 31, u 32, u 33, u 34, u 35, u 36, u 37, u 38, u 39, u 40, u 41, u 42, u 43, u 44, u 45, u 46, u 47, u 48, u 49, u 50, u 51, u 52, u 53, u 54, u 55, u 56, u 57, u 58, u 59, u 60, u 61, u 62, u 63, u 64, u 65, u 66, u 67, u 68, u 69, u 70, u 71, u 72, u 73, u 74, u 75, u 76, u 77, u 78, u 79, u 80, u 81, u 82, u 83, u 84, u 85, u 86, u 87, u 88, u 89, u 90, u 91, u 92, u 93, u 94, u 95, u 96, u 97, u 98, u 99, u 100, u 101, u 102, u 103, u 104, u 105, u 106, u 107, u 108, u 109, u 110, u 111, u 112, u 113, u 114, u 115, u 116, u 117, u 118, u 119, u 120, u 121, u 122, u 123, u 124, u 125, u 126, u 127, u 128, u 129, u 130, u 131, u 132, u 133, u 134, u 135, u 136, u 137, u 138, u 139, u 140, u 141, u 142, u 143, u 144, u 145, u 146, u 147, u 148, u 149, u 150, u 151, u 152, u 153, u 154, u 155, u 156, u 157, u 158, u 159, u 160, u 161, u 162, u 163, u 164, u 165, u 166, u 167, u 168, u 169, u 170, u 171, u 172, u 173, u 174, u 175, u 176, u 177, u 178, u 179, u 180, u 181, u 182, u 183, u 184, u 185, u 186, u 187, u 188, u 189, u 190, u 191, u 192, u 193, u 194, u 195, u 196, u 197, u 198, u 199, u 200, u 201, u 202, u 203, u 204, u 205, u 206, u 207, u 208, u 209, u 210, u 211, u 212, u 213, u 214, u 215, u 216, u 217, u 218, u 219, u 220, u 221, u 222, u 223, u 224, u 225, u 226, u 227, u 228, u 229, u 230, u 231, u 232, u 233, u 234, u 235, u 236, u 237, u 238, u 239, u 240, u 241, u 242, u 243, u 244, u 245, u 246, u 247, u 248, u 249, u 250, u 251, u 252, u 253, u 254, u 255, u 256, u 257, u 258, u 259, u 260, u 261, u 262, u 263, u 264, u 265, u 266, u 267, u 268, u 269, u 270, u 271, u 272, u 273, u 274, u 275, u 276, u 277, u 278, u 279, u 280, u 281, u 282, u 283, u 284, u 285, u 286, u 287, u 288, u 289, u 290, u 291, u 292, u 293, u 294, u 295, u 296, u 297, u 298, u 299, u 300, u 301, u 302, u 303, u 304, u 305, u 306, u 307, u 308, u 309, u 310, u 311, u 312, u 313, u 314, u 315, u 316, u 317, u 318, u 319, u 320, u 321, u 322, u 323, u 324, u 325, u 326, u 327, u 328, u 329, u 330, u 331, u 332, u 333, u 334, u 335, u 336, u 337, u 338, u 339, u 340, u 341, u 342, u 343, u 344, u 345, u 346, u 347], []⟩ := by
  obtain ⟨hd, hs, h1, h2, h14, h18, h19, h20⟩ := h
  refine ⟨fun n => c.tmps.getD n undef, ?_⟩
  obtain ⟨t, d⟩ := c
  simp only at hd hs h1 h2 h14 h18 h19 h20 ⊢
  subst hd
  congr 1
  refine (arr_litRm t hs).trans ?_
  rw [lit_allRm]
  simp only [h1, h2, h14, h18, h19, h20]
structure RmE (q : Nat) (S i : Nat) (c : Act) : Prop where
  df : c.defers = []
  sz : c.tmps.size = 348
  s1 : c.tmps.getD 1 undef = .pointer (some ⟨q, 0, none⟩)
  s2 : c.tmps.getD 2 undef = .pointer (some ⟨q + 1, 0, none⟩)
  s14 : c.tmps.getD 14 undef = .pointer (some ⟨S, 0, none⟩)
  s27 : c.tmps.getD 27 undef = .int .i64 i
set_option maxRecDepth 100000 in
theorem RmE.lit {q : Nat} {S i : Nat} {c : Act} (h : RmE q S i c) : ∃ u : Nat → Value, c = ⟨#[u 0, .pointer (some ⟨q, 0, none⟩), .pointer (some ⟨q + 1, 0, none⟩), u 3, u 4, u 5, u 6, u 7, u 8, u 9, u 10, u 11, u 12, u 13, .pointer (some ⟨S, 0, none⟩), u 15, u 16, u 17, u 18, u 19, u 20, u 21, u 22, u 23, u 24, u 25, u 26, .int .i64 i, u 28, u 29, u 30, u 31, u 32, u 33, u 34, u 35, u 36, u 37, u 38, u 39, u 40, u 41, u 42, u 43, u 44, u 45, u 46, u 47, u 48, u 49, u 50, u 51, u 52, u 53, u 54, u 55, u 56, u 57, u 58, u 59, u 60, u 61, u 62, u 63, u 64, u 65, u 66, u 67, u 68, u 69, u 70, u 71, u 72, u 73, u 74, u 75, u 76, u 77, u 78, u 79, u 80, u 81, u 82, u 83, u 84, u 85, u 86, u 87, u 88, u 89, u 90, u 91, u 92, u 93, u 94, u 95, u 96, u 97, u 98, u 99, u 100, u 101, u 102, u 103, u 104, u 105, u 106, u 107, u 108, u 109, u 110, u 111, u 112, u 113, u 114, u 115, u 116, u 117, u 118, u 119, u 120, u 121, u 122, u 123, u 124, u 125, u 126, u 127, u 128, u 129, u 130, u 131, u 132, u 133, u 134, u 135, u 136, u 137, u 138, u 139, u 140, u 141, u 142, u 143, u 144, u 145, u 146, u 147, u 148, u 149, u 150, u 151, u 152, u 153, u 154, u 155, u 156, u 157, u 158, u 159, u 160, u 161, u 162, u 163, u 164, u 165, u 166, u 167, u 168, u 169, u 170, u 171, u 172, u 173, u 174, u 175, u 176, u 177, u 178, u 179, u 180, u 181, u 182, u 183, u 184, u 185, u 186, u 187, u 188, u 189, u 190, u 191, u 192, u 193, u 194, u 195, u 196, u 197, u 198, u 199, u 200, u 201, u 202, u 203, u 204, u 205, u 206, u 207, u 208, u 209, u 210, u 211, u 212, u 213, u 214, u 215, u 216, u 217, u 218, u 219, u 220, u 221, u 222, u 223, u 224, u 225, u 226, u 227, u 228, u 229, u 230, u 231, u 232, u 233, u 234, u 235, u 236, u 237, u 238, u 239, u 240, u 241, u 242, u 243, u 244, u 245, u 246, u 247, u 248, u 249, u 250, u 251, u 252, u 253, u 254, u 255, u 256, u 257, u 258, u 259, u 260, u 261, u 262, u 263, u 264, u 265, u 266, u 267, u 268, u 269, u 270, u 271, u 272, u 273, u 274, u 275, u 276, u 277, u 278, u 279, u 280, u 281, u 282, u 283, u 284, u 285, u 286, u 287, u 288, u 289, u 290, u 291, u 292, u 293, u 294, u 295, u 296, u 297, u 298, u 299, u 300, u 301, u 302, u 303, u 304, u 305, u 306, u 307, u 308, u 309, u 310, u 311, u 312, u 313, u 314, u 315, u 316, u 317, u 318, u 319, u 320, u 321, u 322, u 323, u 324, u 325, u 326, u 327, u 328, u 329, u 330, u 331, u 332, u 333, u 334, u 335, u 336, u 337, u 338, u 339, u 340, u 341, u 342, u 343, u 344, u 345, u 346, u 347], []⟩ := by
  obtain ⟨hd, hs, h1, h2, h14, h27⟩ := h
  refine ⟨fun n => c.tmps.getD n undef, ?_⟩
  obtain ⟨t, d⟩ := c
  simp only at hd hs h1 h2 h14 h27 ⊢
  subst hd
  congr 1
  refine (arr_litRm t hs).trans ?_
  rw [lit_allRm]
  simp only [h1, h2, h14, h27]
structure RmR (q : Nat) (code pl : Int) (c : Act) : Prop where
  df : c.defers = []
  sz : c.tmps.size = 348
  s2 : c.tmps.getD 2 undef = .pointer (some ⟨q + 1, 0, none⟩)
  s3 : c.tmps.getD 3 undef = .int .i64 code
  s4 : c.tmps.getD 4 undef = .int .i64 pl
set_option maxRecDepth 100000 in
theorem RmR.lit {q : Nat} {code pl : Int} {c : Act} (h : RmR q code pl c) : ∃ u : Nat → Value, c = ⟨#[u 0, u 1, .pointer (some ⟨q + 1, 0, none⟩), .int .i64 code, .int .i64 pl, u 5, u 6, u 7, u 8, u 9, u 10, u 11, u 12, u 13, u 14, u 15, u 16, u 17, u 18, u 19, u 20, u 21, u 22, u 23, u 24, u 25, u 26, u 27, u 28, u 29, u 30, u 31, u 32, u 33, u 34, u 35, u 36, u 37, u 38, u 39, u 40, u 41, u 42, u 43, u 44, u 45, u 46, u 47, u 48, u 49, u 50, u 51, u 52, u 53, u 54, u 55, u 56, u 57, u 58, u 59, u 60, u 61, u 62, u 63, u 64, u 65, u 66, u 67, u 68, u 69, u 70, u 71, u 72, u 73, u 74, u 75, u 76, u 77, u 78, u 79, u 80, u 81, u 82, u 83, u 84, u 85, u 86, u 87, u 88, u 89, u 90, u 91, u 92, u 93, u 94, u 95, u 96, u 97, u 98, u 99, u 100, u 101, u 102, u 103, u 104, u 105, u 106, u 107, u 108, u 109, u 110, u 111, u 112, u 113, u 114, u 115, u 116, u 117, u 118, u 119, u 120, u 121, u 122, u 123, u 124, u 125, u 126, u 127, u 128, u 129, u 130, u 131, u 132, u 133, u 134, u 135, u 136, u 137, u 138, u 139, u 140, u 141, u 142, u 143, u 144, u 145, u 146, u 147, u 148, u 149, u 150, u 151, u 152, u 153, u 154, u 155, u 156, u 157, u 158, u 159, u 160, u 161, u 162, u 163, u 164, u 165, u 166, u 167, u 168, u 169, u 170, u 171, u 172, u 173, u 174, u 175, u 176, u 177, u 178, u 179, u 180, u 181, u 182, u 183, u 184, u 185, u 186, u 187, u 188, u 189, u 190, u 191, u 192, u 193, u 194, u 195, u 196, u 197, u 198, u 199, u 200, u 201, u 202, u 203, u 204, u 205, u 206, u 207, u 208, u 209, u 210, u 211, u 212, u 213, u 214, u 215, u 216, u 217, u 218, u 219, u 220, u 221, u 222, u 223, u 224, u 225, u 226, u 227, u 228, u 229, u 230, u 231, u 232, u 233, u 234, u 235, u 236, u 237, u 238, u 239, u 240, u 241, u 242, u 243, u 244, u 245, u 246, u 247, u 248, u 249, u 250, u 251, u 252, u 253, u 254, u 255, u 256, u 257, u 258, u 259, u 260, u 261, u 262, u 263, u 264, u 265, u 266, u 267, u 268, u 269, u 270, u 271, u 272, u 273, u 274, u 275, u 276, u 277, u 278, u 279, u 280, u 281, u 282, u 283, u 284, u 285, u 286, u 287, u 288, u 289, u 290, u 291, u 292, u 293, u 294, u 295, u 296, u 297, u 298, u 299, u 300, u 301, u 302, u 303, u 304, u 305, u 306, u 307, u 308, u 309, u 310, u 311, u 312, u 313, u 314, u 315, u 316, u 317, u 318, u 319, u 320, u 321, u 322, u 323, u 324, u 325, u 326, u 327, u 328, u 329, u 330, u 331, u 332, u 333, u 334, u 335, u 336, u 337, u 338, u 339, u 340, u 341, u 342, u 343, u 344, u 345, u 346, u 347], []⟩ := by
  obtain ⟨hd, hs, h2, h3, h4⟩ := h
  refine ⟨fun n => c.tmps.getD n undef, ?_⟩
  obtain ⟨t, d⟩ := c
  simp only at hd hs h2 h3 h4 ⊢
  subst hd
  congr 1
  refine (arr_litRm t hs).trans ?_
  rw [lit_allRm]
  simp only [h2, h3, h4]
end Go.Proofs.YtleclhnlojalbaaGreatDoor
namespace Go.Proofs.YtleclhnlojalbaaGreatDoor
open Go.ChangeShapes Go.WideShapes Go.ChangeAt Go.RowKit Go.Shelf

abbrev noRes (W : World) (g : Nat) : Prop := W.heap[g]? = some (.cells #[.slice none 0 0, .slice none 0 0, .int .i64 0] 32 (0, 0))
theorem noRes.below {W W' : World} {g B : Nat} (h : noRes W g) (hb : Below B W W') (hB : g < B) : noRes W' g := blk_below h hb hB
theorem noRes.put {W : World} {g : Nat} (h : noRes W g) : noRes (((W.setCell ⟨g, 0, none⟩ (.slice none 0 0)).setCell ⟨g, 1, none⟩ (.slice none 0 0)).setCell ⟨g, 2, none⟩ (.int .i64 0)) g := blk_set3 h _ _ _
theorem bel_put {W W' : World} {g B : Nat} (hb : Below B W W') (hB : B ≤ g) (x y z : Value) : Below B W (((W'.setCell ⟨g, 0, none⟩ x).setCell ⟨g, 1, none⟩ y).setCell ⟨g, 2, none⟩ z) :=
  ((hb.setCell (p := ⟨g, 0, none⟩) hB x).setCell (p := ⟨g, 1, none⟩) hB y).setCell (p := ⟨g, 2, none⟩) hB z
theorem keep3 {w : World} {g : Nat} {p : Addr} {v x y z : Value} (h : w.cell? p = some v) (hp : p.block ≠ g) : (((w.setCell ⟨g, 0, none⟩ x).setCell ⟨g, 1, none⟩ y).setCell ⟨g, 2, none⟩ z).cell? p = some v := by
  have e : ∀ (w : World) (i : Nat) (x : Value), (w.setCell ⟨g, i, none⟩ x).cell? p = w.cell? p := fun w i x => World.cell?_of_block (Below.heap_setCell _ _ _ _ hp)
  rw [e, e, e, h]
theorem keep3d {w : World} {g : Nat} {p : Addr} {v x y z : Value} (h : w.cell? p = some v) (hp : p.block ≠ g) : (((w.drew.setCell ⟨g, 0, none⟩ x).setCell ⟨g, 1, none⟩ y).setCell ⟨g, 2, none⟩ z).cell? p = some v := keep3 (w := w.drew) h hp
theorem keep3o {w : World} {g : Nat} {p : Addr} {v x y z : Value} (h : w.cell? p = some v) (hp : p.block ≠ g) : (((w.setCell ⟨g, 0, none⟩ x).setCell ⟨g, 1, none⟩ y).setCell ⟨g, 2, none⟩ z).drew.cell? p = some v := keep3 h hp
set_option maxRecDepth 100000 in
set_option maxHeartbeats 4000000 in
theorem rma3_wp {Q : Exit → Act → World → Prop} {c : Act} {w0 : World} {q n e i E k nc rb : Nat} {a na : Option Addr} {name pl : Value} {l : List Tok} (hc : RmA3 q a n e i E k 0 c) (hk : k < l.length)
    (hE : w0.heap[E]? = some (.cells #[name, pl, .slice na l.length nc] 117 (0, 0))) (hEq : q + 1 < E) (hrow : w0.ownsRow rb 109 3 (.slice na l.length nc) l.length (toksCells l)) (hrq : ∀ g, na = some g → g.block ≠ q + 1) (hres : noRes w0 (q + 1))
    (hQ : ∀ c' w', hasS ((l.map tokT).take k) (tokT l[k]) = false → RmA3 q a n e i E k k c' → Below w0.heap.size w0 w' → Q (.exit 4) c' w')
    (hB : ∀ c' w', hasS ((l.map tokT).take k) (tokT l[k]) = true → RmR q 13 l[k].place c' → noRes w' (q + 1) → Below (q + 1) w0 w' → Q .ret c' w') :
    Code.wp Tryz.prog (Code.loop (loopsRm 2)) Q c w0 := by
  refine wp_loop (fun c' w' => ∃ x : Nat, x ≤ k ∧ RmA3 q a n e i E k x c' ∧ Below w0.heap.size w0 w' ∧ hasS ((l.map tokT).take x) (tokT l[k]) = false) (fun c' _ => k - (intOf (c'.tmps.getD 9 undef)).toNat) ⟨0, Nat.zero_le _, hc, Below.refl _ _, rfl⟩ ?_
  clear hc
  rintro c wr ⟨x, hx, hc, hb, hi⟩
  have HQ := Lib.hid hQ
  have HBAD := Lib.hid hB
  have HRES := Lib.hid (hres.below hb (blk_lt hres))
  have HB := Lib.hid hb
  have HEB := Lib.hid (blk_below hE hb (blk_lt hE))
  have HROW := Lib.hid (row_keep hb hrow)
  have HRQ := Lib.hid hrq
  have hfew := row_few hrow
  have hql : q + 1 < w0.heap.size := blk_lt hres
  obtain ⟨u, rfl⟩ := hc.lit
  clear hc hQ hB hb hE hrow hres hrq
  obtain ⟨_, z0, z1, z2, _⟩ := blk3 HEB.out
  conv => arg 2; whnf
  by_cases hlt : x < k
  · obtain ⟨g, cc, hv, hcc, hg, hcell⟩ := row_el tokCells 3 (fun _ => rfl) HROW.out x (by omega)
    obtain ⟨g2, cc2, hv2, _, _, hcell2⟩ := row_el tokCells 3 (fun _ => rfl) HROW.out k hk
    obtain ⟨rfl, rfl⟩ := slice_inj hv
    obtain ⟨hgg, hcc'⟩ := slice_inj hv2
    cases hgg
    subst hcc'
    have x1 : wr.cell? ⟨g, x * 3 + 1, none⟩ = some (.string (tokT l[x])) := hcell 1 (by omega)
    have y1 : wr.cell? ⟨g, k * 3 + 1, none⟩ = some (.string (tokT l[k])) := hcell2 1 (by omega)
    have y2 : wr.cell? ⟨g, k * 3 + 2, none⟩ = some (.int .i64 l[k].place) := hcell2 2 (by omega)
    have hmx : (l.map tokT)[x]'(by rw [List.length_map]; omega) = tokT l[x] := by rw [List.getElem_map]
    have hst := has_take_succ (l.map tokT) (tokT l[k]) x (by rw [List.length_map]; omega)
    have hgq : g ≠ q + 1 := HRQ.out _ rfl
    rw [hmx] at hst
    have hxl : (x : Int) < l.length := by omega
    have hkl : (k : Int) < l.length := by omega
    by_cases hq : tokT l[x] = tokT l[k]
    · have HT := Lib.hid (show hasS ((l.map tokT).take k) (tokT l[k]) = true by
        have hT := hst
        rw [decide_eq_true hq.symm, Bool.or_true] at hT
        have hsplit : (l.map tokT).take k = (l.map tokT).take (x + 1) ++ ((l.map tokT).drop (x + 1)).take (k - (x + 1)) := by
          rw [← List.take_add]
          congr 1
          omega
        rw [hsplit, hasS_append, hT, Bool.true_or])
      have t3 : ((tokT l[x]).toList == (tokT l[k]).toList) = true := ba_yes hq
      obtain ⟨_, _, _, _, f0, f1, f2⟩ := blk3 HRES.out
      clear hq hi hst hmx hcell hcell2 hv hv2
      generalize tokT l[x] = sx at *
      generalize tokT l[k] = sk at *
      generalize l[k].place = pk at *
      go_wp2_with fail
      go_quiet (fail)
      have HW2 := Lib.hid (bel_drewN (Below.refl wr.heap.size wr) nq)
      have k0 : (wr.drewN nq).cell? ⟨E, 2, none⟩ = some (.slice (some ⟨g, 0, none⟩) l.length nc) := (World.cell?_drewN ..).trans z2
      have k1 : (wr.drewN nq).cell? ⟨g, k * 3 + 2, none⟩ = some (.int .i64 pk) := (World.cell?_drewN ..).trans y2
      obtain ⟨_, _, _, _, f0, f1, f2⟩ := blk3 (HRES.out.below HW2.out (blk_lt HRES.out))
      have HR2 := Lib.hid (HRES.out.below HW2.out (blk_lt HRES.out))
      have hEne : (⟨E, 2, none⟩ : Addr).block ≠ q + 1 := by show E ≠ q + 1; omega
      have hgne : (⟨g, k * 3 + 2, none⟩ : Addr).block ≠ q + 1 := hgq
      generalize wr.drewN nq = W2 at *
      clear z0 z1 z2 x1 y1 y2
      go_upto_region 18 with (fail)
      go_region_held3 (fun w' => w'.cell? ⟨E, 2, none⟩ = some (.slice (some ⟨g, 0, none⟩) l.length nc) ∧ w'.cell? ⟨g, k * 3 + 2, none⟩ = some (.int .i64 pk)) (first | assumption | (with_reducible exact ⟨keep3 k0 hEne, keep3 k1 hgne⟩) | (with_reducible exact ⟨keep3d k0 hEne, keep3d k1 hgne⟩) | (with_reducible exact ⟨keep3o k0 hEne, keep3o k1 hgne⟩) | go_keep) (first | fail)
      all_goals
        simp only [Exit.then]
        apply_assumption
        go_wp2
        exact HBAD.out _ _ HT.out ⟨rfl, rfl, rfl, rfl, rfl⟩ HR2.out.put (bel_put (show Below (q + 1) w0 W2 from (HB.out.trans (HW2.out.mono HB.out.size)).mono (Nat.le_of_lt hql)) (Nat.le_refl _) _ _ _).drew
    · have HI := Lib.hid (show hasS ((l.map tokT).take (x + 1)) (tokT l[k]) = false by rw [hst, hi, Bool.false_or]; exact decide_eq_false fun e => hq e.symm)
      have t3 : ((tokT l[x]).toList == (tokT l[k]).toList) = false := ba_no hq
      clear hq hi hst hmx hcell hcell2 hv hv2
      generalize tokT l[x] = sx at *
      generalize tokT l[k] = sk at *
      go_wp2_with fail
      go_quiet (fail)
      go_wp2_with fail
      refine ⟨⟨x + 1, by omega, ⟨rfl, rfl, rfl, rfl, rfl, rfl, rfl, rfl, rfl⟩, bel_drewN HB.out _, HI.out⟩, ?_⟩
      show k - (intOf (.int .i64 ((x : Int) + 1))).toNat < k - (intOf (.int .i64 (x : Int))).toNat
      simp [intOf]; omega
  · obtain rfl : x = k := by omega
    have HI := Lib.hid hi
    clear hi hlt
    go_wp2
    exact HQ.out _ _ HI.out ⟨rfl, rfl, rfl, rfl, rfl, rfl, rfl, rfl, rfl⟩ HB.out
set_option maxRecDepth 100000 in
set_option maxHeartbeats 4000000 in
theorem rma2_wp {Q : Exit → Act → World → Prop} {c : Act} {w0 : World} {q n e i E nc rb : Nat} {a na : Option Addr} {name pl : Value} {l : List Tok} (hc : RmA2 q a n e i E 0 c)
    (hE : w0.heap[E]? = some (.cells #[name, pl, .slice na l.length nc] 117 (0, 0))) (hEq : q + 1 < E) (hrow : w0.ownsRow rb 109 3 (.slice na l.length nc) l.length (toksCells l)) (hrq : ∀ g, na = some g → g.block ≠ q + 1) (hres : noRes w0 (q + 1))
    (hQ : ∀ c' w', dup (l.map tokT) = none → RmA2 q a n e i E l.length c' → Below w0.heap.size w0 w' → Q (.exit 2) c' w')
    (hB : ∀ c' w' j (hj : j < l.length), dup (l.map tokT) = some j → RmR q 13 l[j].place c' → noRes w' (q + 1) → Below (q + 1) w0 w' → Q .ret c' w') :
    Code.wp Tryz.prog (Code.loop (loopsRm 1)) Q c w0 := by
  refine wp_loop (fun c' w' => ∃ k : Nat, k ≤ l.length ∧ RmA2 q a n e i E k c' ∧ Below w0.heap.size w0 w' ∧ dup (l.map tokT) = dupFrom ((l.map tokT).take k) ((l.map tokT).drop k)) (fun c' _ => l.length - (intOf (c'.tmps.getD 8 undef)).toNat) ⟨0, Nat.zero_le _, hc, Below.refl _ _, rfl⟩ ?_
  clear hc
  rintro c wr ⟨k, hk, hc, hb, hd⟩
  have HQ := Lib.hid hQ
  have HBAD := Lib.hid hB
  have HRES := Lib.hid (hres.below hb (blk_lt hres))
  have HB := Lib.hid hb
  have HEB := Lib.hid (blk_below hE hb (blk_lt hE))
  have HROW := Lib.hid (row_keep hb hrow)
  have HRQ := Lib.hid hrq
  have HD := Lib.hid hd
  have hfew := row_few hrow
  have hql : q + 1 < w0.heap.size := blk_lt hres
  obtain ⟨u, rfl⟩ := hc.lit
  clear hc hQ hB hb hE hrow hres hrq hd
  obtain ⟨_, z0, z1, z2, _⟩ := blk3 HEB.out
  conv => arg 2; whnf
  by_cases hlt : k < l.length
  · have HST := Lib.hid (HD.out.trans (dupD_step (l.map tokT) k (by rw [List.length_map]; exact hlt)))
    rw [List.getElem_map] at HST
    clear HD
    go_wp2_with fail
    refine rma3_wp (k := k) ⟨rfl, rfl, rfl, rfl, rfl, rfl, rfl, rfl, rfl⟩ hlt HEB.out hEq HROW.out HRQ.out HRES.out ?_ ?_
    · intro c2 w2 hf hc2 hb2
      have HI := Lib.hid (HST.out.trans (if_neg (by rw [hf]; decide)))
      have HB2 := Lib.hid (HB.out.trans (hb2.mono HB.out.size))
      obtain ⟨u2, rfl⟩ := hc2.lit
      clear hc2 hb2 hf z0 z1 z2
      simp only [Exit.inBlock, Exit.then]
      apply_assumption
      go_wp2
      refine ⟨⟨k + 1, by omega, ⟨rfl, rfl, rfl, rfl, rfl, rfl, rfl, rfl⟩, HB2.out, HI.out⟩, ?_⟩
      show l.length - (intOf (.int .i64 ((k : Int) + 1))).toNat < l.length - (intOf (.int .i64 (k : Int))).toNat
      simp [intOf]; omega
    · intro c2 w2 ht hc2 hr2 hb2
      have HT := Lib.hid (HST.out.trans (if_pos ht))
      simp only [Exit.inBlock, Exit.then]
      exact HBAD.out _ _ k hlt HT.out hc2 hr2 ((HB.out.mono (Nat.le_of_lt hql)).trans hb2)
  · obtain rfl : k = l.length := by omega
    have HI := Lib.hid (show dup (l.map tokT) = none by rw [HD.out, ← List.length_map (f := tokT), List.drop_length]; rfl)
    clear hlt HD
    go_wp2
    exact HQ.out _ _ HI.out ⟨rfl, rfl, rfl, rfl, rfl, rfl, rfl, rfl⟩ HB.out
end Go.Proofs.YtleclhnlojalbaaGreatDoor
