/-
  The frames of the closure that LayoutApart hands to each where some of its slots are known, and written out. No run stands in this text. (Made by program: wip/tools/gen-apfr.py.)
-/
import Derived.Test.YtdlfndjgncdgfaaDoorMadeM
namespace Go.Proofs.YtdlfndjgncdgfaaDoor
open Go.ChangeShapes Go.WideShapes Go.ChangeAt Go.RowKit

theorem arr_litAp (t : Array Value) (h : t.size = 176) : t = ((List.range 176).map fun n => t.getD n undef).toArray := by
  apply Array.ext'
  apply List.ext_getElem?
  intro i
  by_cases hi : i < 176
  · have h' : i < t.size := by omega
    simp [hi, h', Array.getD]
  · have h' : ¬ i < t.size := by omega
    simp [hi, h']
set_option maxRecDepth 100000 in
theorem lit_allAp (u : Nat → Value) : ((List.range 176).map u).toArray = #[u 0, u 1, u 2, u 3, u 4, u 5, u 6, u 7, u 8, u 9, u 10, u 11, u 12, u 13, u 14, u 15, u 16, u 17, u 18, u 19, u 20, u 21, u 22, u 23, u 24, u 25, u 26, u 27, u 28, u 29, u 30, u 31, u 32, u 33, u 34, u 35, u 36, u 37, u 38, u 39, u 40, u 41, u 42, u 43, u 44, u 45, u 46, u 47, u 48, u 49, u 50, u 51, u 52, u 53, u 54, u 55, u 56, u 57, u 58, u 59, u 60, u 61, u 62, u 63, u 64, u 65, u 66, u 67, u 68, u 69, u 70, u 71, u 72, u 73, u 74, u 75, u 76, u 77, u 78, u 79, u 80, u 81, u 82, u 83, u 84, u 85, u 86, u 87, u 88, u 89, u 90, u 91, u 92, u 93, u 94, u 95, u 96, u 97, u 98, u 99, u 100, u 101, u 102, u 103, u 104, u 105, u 106, u 107, u 108, u 109, u 110, u 111, u 112, u 113, u 114, u 115, u 116, u 117, u 118, u 119, u 120, u 121, u 122, u 123, u 124, u 125, u 126, u 127, u 128, u 129, u 130, u 131, u 132, u 133, u 134, u 135, u 136, u 137, u 138, u 139, u 140, u 141, u 142, u 143, u 144, u 145, u 146, u 147, u 148, u 149, u 150, u 151, u 152, u 153, u 154, u 155, u 156, u 157, u 158, u 159, u 160, u 161, u 162, u 163, u 164, u 165, u 166, u 167, u 168, u 169, u 170, u 171, u 172, u 173, u 174, u 175] := rfl
/-- The bodies of the function's loops, as they stand in the text. -/
noncomputable def loopsAp (n : Nat) : Code := ((Tryd.f11.body.map loopsOf).getD []).getD n .skip
def isRegA (n : Nat) : Code → Bool
  | .region m _ _ => m == n
  | _ => false
/-- A region of a code, as it stands in the text. -/
def regOfA (n : Nat) : Code → Option Code
  | .loop c => regOfA n c
  | .seq a b => if isRegA n a then some a else if isRegA n b then some b else match regOfA n a with
    | some c => some c
    | none => regOfA n b
  | .block _ c => regOfA n c
  | .scope c => regOfA n c
  | .cond _ a b => match regOfA n a with
    | some c => some c
    | none => regOfA n b
  | _ => none
noncomputable def apReg (n : Nat) : Code := (Tryd.f11.body.bind (regOfA n)).getD .skip
structure ApA (M R X Y : Nat) (tv : Value) (n k : Nat) (c : Act) : Prop where
  df : c.defers = []
  sz : c.tmps.size = 176
  s2 : c.tmps.getD 2 undef = .pointer (some ⟨M, 0, none⟩)
  s4 : c.tmps.getD 4 undef = .pointer (some ⟨R, 0, none⟩)
  s6 : c.tmps.getD 6 undef = .pointer (some ⟨X, 0, none⟩)
  s7 : c.tmps.getD 7 undef = .pointer (some ⟨Y, 0, none⟩)
  s8 : c.tmps.getD 8 undef = tv
  s28 : c.tmps.getD 28 undef = .int .i64 n
  s29 : c.tmps.getD 29 undef = .int .i64 k
set_option maxRecDepth 100000 in
theorem ApA.lit {M R X Y : Nat} {tv : Value} {n k : Nat} {c : Act} (h : ApA M R X Y tv n k c) : ∃ u : Nat → Value, c = ⟨#[u 0, u 1, .pointer (some ⟨M, 0, none⟩), u 3, .pointer (some ⟨R, 0, none⟩), u 5, .pointer (some ⟨X, 0, none⟩), .pointer (some ⟨Y, 0, none⟩), tv, u 9, u 10, u 11, u 12, u 13, u 14, u 15, u 16, u 17, u 18, u 19, u 20, u 21, u 22, u 23, u 24, u 25, u 26, u 27, .int .i64 n, .int .i64 k, u 30, u 31, u 32, u 33, u 34, u 35, u 36, u 37, u 38, u 39, u 40, u 41, u 42, u 43, u 44, u 45, u 46, u 47, u 48, u 49, u 50, u 51, u 52, u 53, u 54, u 55, u 56, u 57, u 58, u 59, u 60, u 61, u 62, u 63, u 64, u 65, u 66, u 67, u 68, u 69, u 70, u 71, u 72, u 73, u 74, u 75, u 76, u 77, u 78, u 79, u 80, u 81, u 82, u 83, u 84, u 85, u 86, u 87, u 88, u 89, u 90, u 91, u 92, u 93, u 94, u 95, u 96, u 97, u 98, u 99, u 100, u 101, u 102, u 103, u 104, u 105, u 106, u 107, u 108, u 109, u 110, u 111, u 112, u 113, u 114, u 115, u 116, u 117, u 118, u 119, u 120, u 121, u 122, u 123, u 124, u 125, u 126, u 127, u 128, u 129, u 130, u 131, u 132, u 133, u 134, u 135, u 136, u 137, u 138, u 139, u 140, u 141, u 142, u 143, u 144, u 145, u 146, u 147, u 148, u 149, u 150, u 151, u 152, u 153, u 154, u 155, u 156, u 157, u 158, u 159, u 160, u 161, u 162, u 163, u 164, u 165, u 166, u 167, u 168, u 169, u 170, u 171, u 172, u 173, u 174, u 175], []⟩ := by
  obtain ⟨hd, hs, h2, h4, h6, h7, h8, h28, h29⟩ := h
  refine ⟨fun n => c.tmps.getD n undef, ?_⟩
  obtain ⟨t, d⟩ := c
  simp only at hd hs h2 h4 h6 h7 h8 h28 h29 ⊢
  subst hd
  congr 1
  refine (arr_litAp t hs).trans ?_
  rw [lit_allAp]
  simp only [h2, h4, h6, h7, h8, h28, h29]
structure ApS (M R : Nat) (c : Act) : Prop where
  df : c.defers = []
  sz : c.tmps.size = 176
  s2 : c.tmps.getD 2 undef = .pointer (some ⟨M, 0, none⟩)
  s4 : c.tmps.getD 4 undef = .pointer (some ⟨R, 0, none⟩)
set_option maxRecDepth 100000 in
theorem ApS.lit {M R : Nat} {c : Act} (h : ApS M R c) : ∃ u : Nat → Value, c = ⟨#[u 0, u 1, .pointer (some ⟨M, 0, none⟩), u 3, .pointer (some ⟨R, 0, none⟩), u 5, u 6, u 7, u 8, u 9, u 10, u 11, u 12, u 13, u 14, u 15, u 16, u 17, u 18, u 19, u 20, u 21, u 22, u 23, u 24, u 25, u 26, u 27, u 28, u 29, u 30, u 31, u 32, u 33, u 34, u 35, u 36, u 37, u 38, u 39, u 40, u 41, u 42, u 43, u 44, u 45, u 46, u 47, u 48, u 49, u 50, u 51, u 52, u 53, u 54, u 55, u 56, u 57, u 58, u 59, u 60, u 61, u 62, u 63, u 64, u 65, u 66, u 67, u 68, u 69, u 70, u 71, u 72, u 73, u 74, u 75, u 76, u 77, u 78, u 79, u 80, u 81, u 82, u 83, u 84, u 85, u 86, u 87, u 88, u 89, u 90, u 91, u 92, u 93, u 94, u 95, u 96, u 97, u 98, u 99, u 100, u 101, u 102, u 103, u 104, u 105, u 106, u 107, u 108, u 109, u 110, u 111, u 112, u 113, u 114, u 115, u 116, u 117, u 118, u 119, u 120, u 121, u 122, u 123, u 124, u 125, u 126, u 127, u 128, u 129, u 130, u 131, u 132, u 133, u 134, u 135, u 136, u 137, u 138, u 139, u 140, u 141, u 142, u 143, u 144, u 145, u 146, u 147, u 148, u 149, u 150, u 151, u 152, u 153, u 154, u 155, u 156, u 157, u 158, u 159, u 160, u 161, u 162, u 163, u 164, u 165, u 166, u 167, u 168, u 169, u 170, u 171, u 172, u 173, u 174, u 175], []⟩ := by
  obtain ⟨hd, hs, h2, h4⟩ := h
  refine ⟨fun n => c.tmps.getD n undef, ?_⟩
  obtain ⟨t, d⟩ := c
  simp only at hd hs h2 h4 ⊢
  subst hd
  congr 1
  refine (arr_litAp t hs).trans ?_
  rw [lit_allAp]
  simp only [h2, h4]
structure ApX (M R X Y : Nat) (c : Act) : Prop where
  df : c.defers = []
  sz : c.tmps.size = 176
  s2 : c.tmps.getD 2 undef = .pointer (some ⟨M, 0, none⟩)
  s4 : c.tmps.getD 4 undef = .pointer (some ⟨R, 0, none⟩)
  s6 : c.tmps.getD 6 undef = .pointer (some ⟨X, 0, none⟩)
  s7 : c.tmps.getD 7 undef = .pointer (some ⟨Y, 0, none⟩)
set_option maxRecDepth 100000 in
theorem ApX.lit {M R X Y : Nat} {c : Act} (h : ApX M R X Y c) : ∃ u : Nat → Value, c = ⟨#[u 0, u 1, .pointer (some ⟨M, 0, none⟩), u 3, .pointer (some ⟨R, 0, none⟩), u 5, .pointer (some ⟨X, 0, none⟩), .pointer (some ⟨Y, 0, none⟩), u 8, u 9, u 10, u 11, u 12, u 13, u 14, u 15, u 16, u 17, u 18, u 19, u 20, u 21, u 22, u 23, u 24, u 25, u 26, u 27, u 28, u 29, u 30, u 31, u 32, u 33, u 34, u 35, u 36, u 37, u 38, u 39, u 40, u 41, u 42, u 43, u 44, u 45, u 46, u 47, u 48, u 49, u 50, u 51, u 52, u 53, u 54, u 55, u 56, u 57, u 58, u 59, u 60, u 61, u 62, u 63, u 64, u 65, u 66, u 67, u 68, u 69, u 70, u 71, u 72, u 73, u 74, u 75, u 76, u 77, u 78, u 79, u 80, u 81, u 82, u 83, u 84, u 85, u 86, u 87, u 88, u 89, u 90, u 91, u 92, u 93, u 94, u 95, u 96, u 97, u 98, u 99, u 100, u 101, u 102, u 103, u 104, u 105, u 106, u 107, u 108, u 109, u 110, u 111, u 112, u 113, u 114, u 115, u 116, u 117, u 118, u 119, u 120, u 121, u 122, u 123, u 124, u 125, u 126, u 127, u 128, u 129, u 130, u 131, u 132, u 133, u 134, u 135, u 136, u 137, u 138, u 139, u 140, u 141, u 142, u 143, u 144, u 145, u 146, u 147, u 148, u 149, u 150, u 151, u 152, u 153, u 154, u 155, u 156, u 157, u 158, u 159, u 160, u 161, u 162, u 163, u 164, u 165, u 166, u 167, u 168, u 169, u 170, u 171, u 172, u 173, u 174, u 175], []⟩ := by
  obtain ⟨hd, hs, h2, h4, h6, h7⟩ := h
  refine ⟨fun n => c.tmps.getD n undef, ?_⟩
  obtain ⟨t, d⟩ := c
  simp only at hd hs h2 h4 h6 h7 ⊢
  subst hd
  congr 1
  refine (arr_litAp t hs).trans ?_
  rw [lit_allAp]
  simp only [h2, h4, h6, h7]
structure ApM (M R X Y : Nat) (tv : Value) (Z : Nat) (c : Act) : Prop where
  df : c.defers = []
  sz : c.tmps.size = 176
  s2 : c.tmps.getD 2 undef = .pointer (some ⟨M, 0, none⟩)
  s4 : c.tmps.getD 4 undef = .pointer (some ⟨R, 0, none⟩)
  s6 : c.tmps.getD 6 undef = .pointer (some ⟨X, 0, none⟩)
  s7 : c.tmps.getD 7 undef = .pointer (some ⟨Y, 0, none⟩)
  s8 : c.tmps.getD 8 undef = tv
  s10 : c.tmps.getD 10 undef = .pointer (some ⟨Z, 0, none⟩)
set_option maxRecDepth 100000 in
theorem ApM.lit {M R X Y : Nat} {tv : Value} {Z : Nat} {c : Act} (h : ApM M R X Y tv Z c) : ∃ u : Nat → Value, c = ⟨#[u 0, u 1, .pointer (some ⟨M, 0, none⟩), u 3, .pointer (some ⟨R, 0, none⟩), u 5, .pointer (some ⟨X, 0, none⟩), .pointer (some ⟨Y, 0, none⟩), tv, u 9, .pointer (some ⟨Z, 0, none⟩), u 11, u 12, u 13, u 14, u 15, u 16, u 17, u 18, u 19, u 20, u 21, u 22, u 23, u 24, u 25, u 26, u 27, u 28, u 29, u 30, u 31, u 32, u 33, u 34, u 35, u 36, u 37, u 38, u 39, u 40, u 41, u 42, u 43, u 44, u 45, u 46, u 47, u 48, u 49, u 50, u 51, u 52, u 53, u 54, u 55, u 56, u 57, u 58, u 59, u 60, u 61, u 62, u 63, u 64, u 65, u 66, u 67, u 68, u 69, u 70, u 71, u 72, u 73, u 74, u 75, u 76, u 77, u 78, u 79, u 80, u 81, u 82, u 83, u 84, u 85, u 86, u 87, u 88, u 89, u 90, u 91, u 92, u 93, u 94, u 95, u 96, u 97, u 98, u 99, u 100, u 101, u 102, u 103, u 104, u 105, u 106, u 107, u 108, u 109, u 110, u 111, u 112, u 113, u 114, u 115, u 116, u 117, u 118, u 119, u 120, u 121, u 122, u 123, u 124, u 125, u 126, u 127, u 128, u 129, u 130, u 131, u 132, u 133, u 134, u 135, u 136, u 137, u 138, u 139, u 140, u 141, u 142, u 143, u 144, u 145, u 146, u 147, u 148, u 149, u 150, u 151, u 152, u 153, u 154, u 155, u 156, u 157, u 158, u 159, u 160, u 161, u 162, u 163, u 164, u 165, u 166, u 167, u 168, u 169, u 170, u 171, u 172, u 173, u 174, u 175], []⟩ := by
  obtain ⟨hd, hs, h2, h4, h6, h7, h8, h10⟩ := h
  refine ⟨fun n => c.tmps.getD n undef, ?_⟩
  obtain ⟨t, d⟩ := c
  simp only at hd hs h2 h4 h6 h7 h8 h10 ⊢
  subst hd
  congr 1
  refine (arr_litAp t hs).trans ?_
  rw [lit_allAp]
  simp only [h2, h4, h6, h7, h8, h10]
structure ApL0 (R X Y Z : Nat) (tv vb vy vr vp : Value) (c : Act) : Prop where
  df : c.defers = []
  sz : c.tmps.size = 176
  s4 : c.tmps.getD 4 undef = .pointer (some ⟨R, 0, none⟩)
  s6 : c.tmps.getD 6 undef = .pointer (some ⟨X, 0, none⟩)
  s7 : c.tmps.getD 7 undef = .pointer (some ⟨Y, 0, none⟩)
  s8 : c.tmps.getD 8 undef = tv
  s10 : c.tmps.getD 10 undef = .pointer (some ⟨Z, 0, none⟩)
  s11 : c.tmps.getD 11 undef = vb
  s12 : c.tmps.getD 12 undef = vy
  s13 : c.tmps.getD 13 undef = vr
  s14 : c.tmps.getD 14 undef = vp
set_option maxRecDepth 100000 in
theorem ApL0.lit {R X Y Z : Nat} {tv vb vy vr vp : Value} {c : Act} (h : ApL0 R X Y Z tv vb vy vr vp c) : ∃ u : Nat → Value, c = ⟨#[u 0, u 1, u 2, u 3, .pointer (some ⟨R, 0, none⟩), u 5, .pointer (some ⟨X, 0, none⟩), .pointer (some ⟨Y, 0, none⟩), tv, u 9, .pointer (some ⟨Z, 0, none⟩), vb, vy, vr, vp, u 15, u 16, u 17, u 18, u 19, u 20, u 21, u 22, u 23, u 24, u 25, u 26, u 27, u 28, u 29, u 30, u 31, u 32, u 33, u 34, u 35, u 36, u 37, u 38, u 39, u 40, u 41, u 42, u 43, u 44, u 45, u 46, u 47, u 48, u 49, u 50, u 51, u 52, u 53, u 54, u 55, u 56, u 57, u 58, u 59, u 60, u 61, u 62, u 63, u 64, u 65, u 66, u 67, u 68, u 69, u 70, u 71, u 72, u 73, u 74, u 75, u 76, u 77, u 78, u 79, u 80, u 81, u 82, u 83, u 84, u 85, u 86, u 87, u 88, u 89, u 90, u 91, u 92, u 93, u 94, u 95, u 96, u 97, u 98, u 99, u 100, u 101, u 102, u 103, u 104, u 105, u 106, u 107, u 108, u 109, u 110, u 111, u 112, u 113, u 114, u 115, u 116, u 117, u 118, u 119, u 120, u 121, u 122, u 123, u 124, u 125, u 126, u 127, u 128, u 129, u 130, u 131, u 132, u 133, u 134, u 135, u 136, u 137, u 138, u 139, u 140, u 141, u 142, u 143, u 144, u 145, u 146, u 147, u 148, u 149, u 150, u 151, u 152, u 153, u 154, u 155, u 156, u 157, u 158, u 159, u 160, u 161, u 162, u 163, u 164, u 165, u 166, u 167, u 168, u 169, u 170, u 171, u 172, u 173, u 174, u 175], []⟩ := by
  obtain ⟨hd, hs, h4, h6, h7, h8, h10, h11, h12, h13, h14⟩ := h
  refine ⟨fun n => c.tmps.getD n undef, ?_⟩
  obtain ⟨t, d⟩ := c
  simp only at hd hs h4 h6 h7 h8 h10 h11 h12 h13 h14 ⊢
  subst hd
  congr 1
  refine (arr_litAp t hs).trans ?_
  rw [lit_allAp]
  simp only [h4, h6, h7, h8, h10, h11, h12, h13, h14]
structure ApL (X Y Z : Nat) (tv vb vy vr vp fv : Value) (n k : Nat) (c : Act) : Prop where
  df : c.defers = []
  sz : c.tmps.size = 176
  s6 : c.tmps.getD 6 undef = .pointer (some ⟨X, 0, none⟩)
  s7 : c.tmps.getD 7 undef = .pointer (some ⟨Y, 0, none⟩)
  s8 : c.tmps.getD 8 undef = tv
  s10 : c.tmps.getD 10 undef = .pointer (some ⟨Z, 0, none⟩)
  s11 : c.tmps.getD 11 undef = vb
  s12 : c.tmps.getD 12 undef = vy
  s13 : c.tmps.getD 13 undef = vr
  s14 : c.tmps.getD 14 undef = vp
  s15 : c.tmps.getD 15 undef = .func (.func 15) #[] #[]
  s58 : c.tmps.getD 58 undef = fv
  s59 : c.tmps.getD 59 undef = .int .i64 n
  s60 : c.tmps.getD 60 undef = .int .i64 k
set_option maxRecDepth 100000 in
theorem ApL.lit {X Y Z : Nat} {tv vb vy vr vp fv : Value} {n k : Nat} {c : Act} (h : ApL X Y Z tv vb vy vr vp fv n k c) : ∃ u : Nat → Value, c = ⟨#[u 0, u 1, u 2, u 3, u 4, u 5, .pointer (some ⟨X, 0, none⟩), .pointer (some ⟨Y, 0, none⟩), tv, u 9, .pointer (some ⟨Z, 0, none⟩), vb, vy, vr, vp, .func (.func 15) #[] #[], u 16, u 17, u 18, u 19, u 20, u 21, u 22, u 23, u 24, u 25, u 26, u 27, u 28, u 29, u 30, u 31, u 32, u 33, u 34, u 35, u 36, u 37, u 38, u 39, u 40, u 41, u 42, u 43, u 44, u 45, u 46, u 47, u 48, u 49, u 50, u 51, u 52, u 53, u 54, u 55, u 56, u 57, fv, .int .i64 n, .int .i64 k, u 61, u 62, u 63, u 64, u 65, u 66, u 67, u 68, u 69, u 70, u 71, u 72, u 73, u 74, u 75, u 76, u 77, u 78, u 79, u 80, u 81, u 82, u 83, u 84, u 85, u 86, u 87, u 88, u 89, u 90, u 91, u 92, u 93, u 94, u 95, u 96, u 97, u 98, u 99, u 100, u 101, u 102, u 103, u 104, u 105, u 106, u 107, u 108, u 109, u 110, u 111, u 112, u 113, u 114, u 115, u 116, u 117, u 118, u 119, u 120, u 121, u 122, u 123, u 124, u 125, u 126, u 127, u 128, u 129, u 130, u 131, u 132, u 133, u 134, u 135, u 136, u 137, u 138, u 139, u 140, u 141, u 142, u 143, u 144, u 145, u 146, u 147, u 148, u 149, u 150, u 151, u 152, u 153, u 154, u 155, u 156, u 157, u 158, u 159, u 160, u 161, u 162, u 163, u 164, u 165, u 166, u 167, u 168, u 169, u 170, u 171, u 172, u 173, u 174, u 175], []⟩ := by
  obtain ⟨hd, hs, h6, h7, h8, h10, h11, h12, h13, h14, h15, h58, h59, h60⟩ := h
  refine ⟨fun n => c.tmps.getD n undef, ?_⟩
  obtain ⟨t, d⟩ := c
  simp only at hd hs h6 h7 h8 h10 h11 h12 h13 h14 h15 h58 h59 h60 ⊢
  subst hd
  congr 1
  refine (arr_litAp t hs).trans ?_
  rw [lit_allAp]
  simp only [h6, h7, h8, h10, h11, h12, h13, h14, h15, h58, h59, h60]
structure ApC (X Y Z : Nat) (tv vb vy vr vp fv : Value) (n k : Nat) (F : Nat) (bits : Int) (num : Bool) (c : Act) : Prop where
  df : c.defers = []
  sz : c.tmps.size = 176
  s6 : c.tmps.getD 6 undef = .pointer (some ⟨X, 0, none⟩)
  s7 : c.tmps.getD 7 undef = .pointer (some ⟨Y, 0, none⟩)
  s8 : c.tmps.getD 8 undef = tv
  s10 : c.tmps.getD 10 undef = .pointer (some ⟨Z, 0, none⟩)
  s11 : c.tmps.getD 11 undef = vb
  s12 : c.tmps.getD 12 undef = vy
  s13 : c.tmps.getD 13 undef = vr
  s14 : c.tmps.getD 14 undef = vp
  s15 : c.tmps.getD 15 undef = .func (.func 15) #[] #[]
  s16 : c.tmps.getD 16 undef = .int .i64 k
  s17 : c.tmps.getD 17 undef = .pointer (some ⟨F, 0, none⟩)
  s18 : c.tmps.getD 18 undef = .int .i64 bits
  s19 : c.tmps.getD 19 undef = .bool num
  s58 : c.tmps.getD 58 undef = fv
  s59 : c.tmps.getD 59 undef = .int .i64 n
  s60 : c.tmps.getD 60 undef = .int .i64 k
set_option maxRecDepth 100000 in
theorem ApC.lit {X Y Z : Nat} {tv vb vy vr vp fv : Value} {n k : Nat} {F : Nat} {bits : Int} {num : Bool} {c : Act} (h : ApC X Y Z tv vb vy vr vp fv n k F bits num c) : ∃ u : Nat → Value, c = ⟨#[u 0, u 1, u 2, u 3, u 4, u 5, .pointer (some ⟨X, 0, none⟩), .pointer (some ⟨Y, 0, none⟩), tv, u 9, .pointer (some ⟨Z, 0, none⟩), vb, vy, vr, vp, .func (.func 15) #[] #[], .int .i64 k, .pointer (some ⟨F, 0, none⟩), .int .i64 bits, .bool num, u 20, u 21, u 22, u 23, u 24, u 25, u 26, u 27, u 28, u 29, u 30, u 31, u 32, u 33, u 34, u 35, u 36, u 37, u 38, u 39, u 40, u 41, u 42, u 43, u 44, u 45, u 46, u 47, u 48, u 49, u 50, u 51, u 52, u 53, u 54, u 55, u 56, u 57, fv, .int .i64 n, .int .i64 k, u 61, u 62, u 63, u 64, u 65, u 66, u 67, u 68, u 69, u 70, u 71, u 72, u 73, u 74, u 75, u 76, u 77, u 78, u 79, u 80, u 81, u 82, u 83, u 84, u 85, u 86, u 87, u 88, u 89, u 90, u 91, u 92, u 93, u 94, u 95, u 96, u 97, u 98, u 99, u 100, u 101, u 102, u 103, u 104, u 105, u 106, u 107, u 108, u 109, u 110, u 111, u 112, u 113, u 114, u 115, u 116, u 117, u 118, u 119, u 120, u 121, u 122, u 123, u 124, u 125, u 126, u 127, u 128, u 129, u 130, u 131, u 132, u 133, u 134, u 135, u 136, u 137, u 138, u 139, u 140, u 141, u 142, u 143, u 144, u 145, u 146, u 147, u 148, u 149, u 150, u 151, u 152, u 153, u 154, u 155, u 156, u 157, u 158, u 159, u 160, u 161, u 162, u 163, u 164, u 165, u 166, u 167, u 168, u 169, u 170, u 171, u 172, u 173, u 174, u 175], []⟩ := by
  obtain ⟨hd, hs, h6, h7, h8, h10, h11, h12, h13, h14, h15, h16, h17, h18, h19, h58, h59, h60⟩ := h
  refine ⟨fun n => c.tmps.getD n undef, ?_⟩
  obtain ⟨t, d⟩ := c
  simp only at hd hs h6 h7 h8 h10 h11 h12 h13 h14 h15 h16 h17 h18 h19 h58 h59 h60 ⊢
  subst hd
  congr 1
  refine (arr_litAp t hs).trans ?_
  rw [lit_allAp]
  simp only [h6, h7, h8, h10, h11, h12, h13, h14, h15, h16, h17, h18, h19, h58, h59, h60]
structure ApC1 (X Y Z : Nat) (tv vb vy vr vp fv : Value) (n k : Nat) (F : Nat) (bits : Int) (num : Bool) (c : Act) : Prop where
  df : c.defers = []
  sz : c.tmps.size = 176
  s6 : c.tmps.getD 6 undef = .pointer (some ⟨X, 0, none⟩)
  s7 : c.tmps.getD 7 undef = .pointer (some ⟨Y, 0, none⟩)
  s8 : c.tmps.getD 8 undef = tv
  s10 : c.tmps.getD 10 undef = .pointer (some ⟨Z, 0, none⟩)
  s11 : c.tmps.getD 11 undef = vb
  s12 : c.tmps.getD 12 undef = vy
  s13 : c.tmps.getD 13 undef = vr
  s14 : c.tmps.getD 14 undef = vp
  s15 : c.tmps.getD 15 undef = .func (.func 15) #[] #[]
  s16 : c.tmps.getD 16 undef = .int .i64 k
  s17 : c.tmps.getD 17 undef = .pointer (some ⟨F, 0, none⟩)
  s18 : c.tmps.getD 18 undef = .int .i64 bits
  s19 : c.tmps.getD 19 undef = .bool num
  s58 : c.tmps.getD 58 undef = fv
  s59 : c.tmps.getD 59 undef = .int .i64 n
  s60 : c.tmps.getD 60 undef = .int .i64 k
  s127 : c.tmps.getD 127 undef = .bool false
set_option maxRecDepth 100000 in
theorem ApC1.lit {X Y Z : Nat} {tv vb vy vr vp fv : Value} {n k : Nat} {F : Nat} {bits : Int} {num : Bool} {c : Act} (h : ApC1 X Y Z tv vb vy vr vp fv n k F bits num c) : ∃ u : Nat → Value, c = ⟨#[u 0, u 1, u 2, u 3, u 4, u 5, .pointer (some ⟨X, 0, none⟩), .pointer (some ⟨Y, 0, none⟩), tv, u 9, .pointer (some ⟨Z, 0, none⟩), vb, vy, vr, vp, .func (.func 15) #[] #[], .int .i64 k, .pointer (some ⟨F, 0, none⟩), .int .i64 bits, .bool num, u 20, u 21, u 22, u 23, u 24, u 25, u 26, u 27, u 28, u 29, u 30, u 31, u 32, u 33, u 34, u 35, u 36, u 37, u 38, u 39, u 40, u 41, u 42, u 43, u 44, u 45, u 46, u 47, u 48, u 49, u 50, u 51, u 52, u 53, u 54, u 55, u 56, u 57, fv, .int .i64 n, .int .i64 k, u 61, u 62, u 63, u 64, u 65, u 66, u 67, u 68, u 69, u 70, u 71, u 72, u 73, u 74, u 75, u 76, u 77, u 78, u 79, u 80, u 81, u 82, u 83, u 84, u 85, u 86, u 87, u 88, u 89, u 90, u 91, u 92, u 93, u 94, u 95, u 96, u 97, u 98, u 99, u 100, u 101, u 102, u 103, u 104, u 105, u 106, u 107, u 108, u 109, u 110, u 111, u 112, u 113, u 114, u 115, u 116, u 117, u 118, u 119, u 120, u 121, u 122, u 123, u 124, u 125, u 126, .bool false, u 128, u 129, u 130, u 131, u 132, u 133, u 134, u 135, u 136, u 137, u 138, u 139, u 140, u 141, u 142, u 143, u 144, u 145, u 146, u 147, u 148, u 149, u 150, u 151, u 152, u 153, u 154, u 155, u 156, u 157, u 158, u 159, u 160, u 161, u 162, u 163, u 164, u 165, u 166, u 167, u 168, u 169, u 170, u 171, u 172, u 173, u 174, u 175], []⟩ := by
  obtain ⟨hd, hs, h6, h7, h8, h10, h11, h12, h13, h14, h15, h16, h17, h18, h19, h58, h59, h60, h127⟩ := h
  refine ⟨fun n => c.tmps.getD n undef, ?_⟩
  obtain ⟨t, d⟩ := c
  simp only at hd hs h6 h7 h8 h10 h11 h12 h13 h14 h15 h16 h17 h18 h19 h58 h59 h60 h127 ⊢
  subst hd
  congr 1
  refine (arr_litAp t hs).trans ?_
  rw [lit_allAp]
  simp only [h6, h7, h8, h10, h11, h12, h13, h14, h15, h16, h17, h18, h19, h58, h59, h60, h127]
structure ApC2 (X Y Z : Nat) (tv vb vy vr vp fv : Value) (n k : Nat) (F : Nat) (bits : Int) (num : Bool) (c : Act) : Prop where
  df : c.defers = []
  sz : c.tmps.size = 176
  s6 : c.tmps.getD 6 undef = .pointer (some ⟨X, 0, none⟩)
  s7 : c.tmps.getD 7 undef = .pointer (some ⟨Y, 0, none⟩)
  s8 : c.tmps.getD 8 undef = tv
  s10 : c.tmps.getD 10 undef = .pointer (some ⟨Z, 0, none⟩)
  s11 : c.tmps.getD 11 undef = vb
  s12 : c.tmps.getD 12 undef = vy
  s13 : c.tmps.getD 13 undef = vr
  s14 : c.tmps.getD 14 undef = vp
  s15 : c.tmps.getD 15 undef = .func (.func 15) #[] #[]
  s16 : c.tmps.getD 16 undef = .int .i64 k
  s17 : c.tmps.getD 17 undef = .pointer (some ⟨F, 0, none⟩)
  s18 : c.tmps.getD 18 undef = .int .i64 bits
  s19 : c.tmps.getD 19 undef = .bool num
  s58 : c.tmps.getD 58 undef = fv
  s59 : c.tmps.getD 59 undef = .int .i64 n
  s60 : c.tmps.getD 60 undef = .int .i64 k
  s163 : c.tmps.getD 163 undef = .bool false
set_option maxRecDepth 100000 in
theorem ApC2.lit {X Y Z : Nat} {tv vb vy vr vp fv : Value} {n k : Nat} {F : Nat} {bits : Int} {num : Bool} {c : Act} (h : ApC2 X Y Z tv vb vy vr vp fv n k F bits num c) : ∃ u : Nat → Value, c = ⟨#[u 0, u 1, u 2, u 3, u 4, u 5, .pointer (some ⟨X, 0, none⟩), .pointer (some ⟨Y, 0, none⟩), tv, u 9, .pointer (some ⟨Z, 0, none⟩), vb, vy, vr, vp, .func (.func 15) #[] #[], .int .i64 k, .pointer (some ⟨F, 0, none⟩), .int .i64 bits, .bool num, u 20, u 21, u 22, u 23, u 24, u 25, u 26, u 27, u 28, u 29, u 30, u 31, u 32, u 33, u 34, u 35, u 36, u 37, u 38, u 39, u 40, u 41, u 42, u 43, u 44, u 45, u 46, u 47, u 48, u 49, u 50, u 51, u 52, u 53, u 54, u 55, u 56, u 57, fv, .int .i64 n, .int .i64 k, u 61, u 62, u 63, u 64, u 65, u 66, u 67, u 68, u 69, u 70, u 71, u 72, u 73, u 74, u 75, u 76, u 77, u 78, u 79, u 80, u 81, u 82, u 83, u 84, u 85, u 86, u 87, u 88, u 89, u 90, u 91, u 92, u 93, u 94, u 95, u 96, u 97, u 98, u 99, u 100, u 101, u 102, u 103, u 104, u 105, u 106, u 107, u 108, u 109, u 110, u 111, u 112, u 113, u 114, u 115, u 116, u 117, u 118, u 119, u 120, u 121, u 122, u 123, u 124, u 125, u 126, u 127, u 128, u 129, u 130, u 131, u 132, u 133, u 134, u 135, u 136, u 137, u 138, u 139, u 140, u 141, u 142, u 143, u 144, u 145, u 146, u 147, u 148, u 149, u 150, u 151, u 152, u 153, u 154, u 155, u 156, u 157, u 158, u 159, u 160, u 161, u 162, .bool false, u 164, u 165, u 166, u 167, u 168, u 169, u 170, u 171, u 172, u 173, u 174, u 175], []⟩ := by
  obtain ⟨hd, hs, h6, h7, h8, h10, h11, h12, h13, h14, h15, h16, h17, h18, h19, h58, h59, h60, h163⟩ := h
  refine ⟨fun n => c.tmps.getD n undef, ?_⟩
  obtain ⟨t, d⟩ := c
  simp only at hd hs h6 h7 h8 h10 h11 h12 h13 h14 h15 h16 h17 h18 h19 h58 h59 h60 h163 ⊢
  subst hd
  congr 1
  refine (arr_litAp t hs).trans ?_
  rw [lit_allAp]
  simp only [h6, h7, h8, h10, h11, h12, h13, h14, h15, h16, h17, h18, h19, h58, h59, h60, h163]
structure ApE (tv : Value) (n k : Nat) (c : Act) : Prop where
  df : c.defers = []
  sz : c.tmps.size = 176
  s167 : c.tmps.getD 167 undef = tv
  s168 : c.tmps.getD 168 undef = .int .i64 n
  s169 : c.tmps.getD 169 undef = .int .i64 k
set_option maxRecDepth 100000 in
theorem ApE.lit {tv : Value} {n k : Nat} {c : Act} (h : ApE tv n k c) : ∃ u : Nat → Value, c = ⟨#[u 0, u 1, u 2, u 3, u 4, u 5, u 6, u 7, u 8, u 9, u 10, u 11, u 12, u 13, u 14, u 15, u 16, u 17, u 18, u 19, u 20, u 21, u 22, u 23, u 24, u 25, u 26, u 27, u 28, u 29, u 30, u 31, u 32, u 33, u 34, u 35, u 36, u 37, u 38, u 39, u 40, u 41, u 42, u 43, u 44, u 45, u 46, u 47, u 48, u 49, u 50, u 51, u 52, u 53, u 54, u 55, u 56, u 57, u 58, u 59, u 60, u 61, u 62, u 63, u 64, u 65, u 66, u 67, u 68, u 69, u 70, u 71, u 72, u 73, u 74, u 75, u 76, u 77, u 78, u 79, u 80, u 81, u 82, u 83, u 84, u 85, u 86, u 87, u 88, u 89, u 90, u 91, u 92, u 93, u 94, u 95, u 96, u 97, u 98, u 99, u 100, u 101, u 102, u 103, u 104, u 105, u 106, u 107, u 108, u 109, u 110, u 111, u 112, u 113, u 114, u 115, u 116, u 117, u 118, u 119, u 120, u 121, u 122, u 123, u 124, u 125, u 126, u 127, u 128, u 129, u 130, u 131, u 132, u 133, u 134, u 135, u 136, u 137, u 138, u 139, u 140, u 141, u 142, u 143, u 144, u 145, u 146, u 147, u 148, u 149, u 150, u 151, u 152, u 153, u 154, u 155, u 156, u 157, u 158, u 159, u 160, u 161, u 162, u 163, u 164, u 165, u 166, tv, .int .i64 n, .int .i64 k, u 170, u 171, u 172, u 173, u 174, u 175], []⟩ := by
  obtain ⟨hd, hs, h167, h168, h169⟩ := h
  refine ⟨fun n => c.tmps.getD n undef, ?_⟩
  obtain ⟨t, d⟩ := c
  simp only at hd hs h167 h168 h169 ⊢
  subst hd
  congr 1
  refine (arr_litAp t hs).trans ?_
  rw [lit_allAp]
  simp only [h167, h168, h169]
end Go.Proofs.YtdlfndjgncdgfaaDoor
