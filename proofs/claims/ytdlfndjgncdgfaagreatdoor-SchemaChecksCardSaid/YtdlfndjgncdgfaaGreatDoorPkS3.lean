/-
  Plain facts on blanks and remarks, step by step. No run of the program stands in this text. Conditions: those that each theorem names.
-/
import Derived.Test.YtdlfndjgncdgfaaGreatDoorPkS1
import Derived.Test.YtdlfndjgncdgfaaGreatDoorPkS2
import Derived.Lib.ConvBytes
import Derived.Lib.AtoiErrMem
import Derived.Laws.EntriesVeiled
import Derived.Shelf.Abstract
import Derived.Test.YtdlfndjgncdgfaaGreatDoorRows
import Derived.WalkKit
import Derived.ProofKit
import Derived.OpenShut
import Derived.ShutString
import Derived.ChangeOld
import Derived.Below
import Derived.WalkLawsBesides
import Derived.WalkSpells
import Derived.Lib.Hide
import Derived.Outline
import Derived.Handy
import Derived.Shelf.Spec.DecodeRune
import Derived.Lib.LaidU8T
import Derived.KernelRfl
import Derived.Shelf.Small.Wraps
import Derived.Shelf.Bytes.SlSmallAll
namespace Go.Proofs.YtdlfndjgncdgfaaGreatDoor
open Go.ChangeShapes Go.WideShapes Go.ChangeAt Go.RowKit Go.Shelf

def tokCells (t : Tok) : List Value := [.int .i64 t.kind, .string (strOfNums t.text), .int .i64 t.place]
def toksCells (l : List Tok) : List Value := l.flatMap tokCells
def OwnT (w : World) (base : Nat) (v : Value) (l : List Tok) : Prop := w.ownsRow base 108 3 v l.length (toksCells l)
theorem toksCells_length (l : List Tok) : (toksCells l).length = l.length * 3 := by
  induction l with
  | nil => rfl
  | cons a r ih =>
    have e : toksCells (a :: r) = tokCells a ++ toksCells r := rfl
    rw [e, List.length_append, ih, List.length_cons]
    simp [tokCells]
    omega
theorem toksCells_snoc (l : List Tok) (t : Tok) : toksCells (l ++ [t]) = toksCells l ++ tokCells t := by
  simp [toksCells]
theorem ownT_nil (w : World) (base : Nat) : OwnT w base (.slice none 0 0) [] := World.ownsRow_nil w base _ _
theorem tok_info : (Tryz.prog.info? 108).map (fun i => (i.zero, i.size, i.bytes)) = some (some (.agg #[.int .i64 0, .string ⟨#[]⟩, .int .i64 0]), 3, 32) := by kernel_rfl
def lenOf : Value → Nat
  | .slice _ n _ => n
  | _ => 0
theorem OwnT.form {w : World} {base : Nat} {v : Value} {l : List Tok} (h : OwnT w base v l) : ∃ a c, v = .slice a l.length c := by
  rcases h.2 with ⟨rfl, h0⟩ | ⟨g, cap, _, rfl, _⟩
  · rw [h0]
    exact ⟨_, _, rfl⟩
  · exact ⟨_, _, rfl⟩
theorem OwnT.below {w w' : World} {base B : Nat} {v : Value} {l : List Tok} (h : OwnT w base v l) (hb : Below B w w') (hB : w.heap.size ≤ B) : OwnT w' base v l := by
  obtain ⟨hl, h'⟩ := h
  refine ⟨hl, ?_⟩
  rcases h' with h1 | ⟨g', cap', cur, hv, h1, hg, h2⟩
  · exact .inl h1
  · have hlt : g' < w.heap.size := by
      rcases Nat.lt_or_ge g' w.heap.size with h | h
      · exact h
      · rw [Array.getElem?_eq_none h] at hg; cases hg
    exact .inr ⟨g', cap', cur, hv, h1, (hb.block g' (by omega)).trans hg, h2⟩
theorem OwnT.base_le {w : World} {base base' : Nat} {v : Value} {l : List Tok} (h : OwnT w base v l) (hb : base' ≤ base) : OwnT w base' v l :=
  ⟨h.1, h.2.elim Or.inl (fun ⟨g, cap, cur, hv, hg, r⟩ => Or.inr ⟨g, cap, cur, hv, Nat.le_trans hb hg, r⟩)⟩
theorem tokCells_new (W : World) (t : Tok) (g : Nat) (hg : g = W.heap.size) : ∀ j u, (tokCells t)[j]? = some u → (W.alloc (.cells #[.int .i64 t.kind, .string (strOfNums t.text), .int .i64 t.place] 108)).cell? ((⟨g, 0, none⟩ : Addr).add j) = some u := by
  intro j u hu
  subst hg
  rw [add_plain, Nat.zero_add, cell_of_row _ _ _ _ _ (0, 0) (heap_alloc_new W _)]
  simpa [tokCells] using hu
theorem tokCells_one (t : Tok) : ∀ u ∈ tokCells t, u.oneCell' = true := by
  intro u hu
  simp [tokCells] at hu
  rcases hu with rfl | rfl | rfl <;> rfl
theorem OwnT.lt {w : World} {base : Nat} {v : Value} {l : List Tok} (h : OwnT w base v l) : ∀ k, v.ownBlock = some k → base ≤ k ∧ k < w.heap.size := by
  intro k hk
  rcases h.2 with ⟨rfl, _⟩ | ⟨g, cap, cur, rfl, hb, hg, _⟩
  · simp [Value.ownBlock] at hk
  · simp [Value.ownBlock] at hk
    subst hk
    refine ⟨hb, ?_⟩
    rcases Nat.lt_or_ge g w.heap.size with h' | h'
    · exact h'
    · rw [Array.getElem?_eq_none h'] at hg; cases hg
theorem OwnT.snoc {w : World} {base : Nat} {v : Value} {l : List Tok} {t : Tok} (h : w.ownsRow base 108 3 v (l.length + 1) (toksCells l ++ tokCells t)) : OwnT w base v (l ++ [t]) := by
  unfold OwnT
  rw [toksCells_snoc, List.length_append, List.length_singleton]
  exact h
theorem grown_new {W0 W3 W4 : World} {v x y z : Value} {l : List Tok} {o : Obj} (hO : OwnT W3 W0.heap.size v l) (hb : Below W0.heap.size W0 W3) (hg : ((W3.alloc (.cells #[x, y, z] 108)).alloc o).grownBy W4 v.ownBlock) :
    W4.cell? ⟨W3.heap.size, 0, none⟩ = some x ∧ Below W0.heap.size W0 W4 := by
  have hs := hb.size
  constructor
  · rw [World.cell?_of_block (a := ⟨W3.heap.size, 0, none⟩) (hg.block W3.heap.size (by simp; omega) (fun e => by have := hO.lt _ e.symm; omega))]
    rw [World.cell?_alloc_lt _ _ _ (by simp)]
    rw [cell_of_row _ _ _ _ _ (0, 0) (heap_alloc_new W3 _)]
    rfl
  · exact (((hb.alloc hs _).alloc (by simp; omega) _)).grown hg (by simp; omega) (fun k hk => (hO.lt k hk).1)
theorem OwnT.setFar {w : World} {base : Nat} {v : Value} {l : List Tok} (h : OwnT w base v l) {p : Addr} (hp : p.block < base) (x : Value) : OwnT (w.setCell p x) base v l := by
  obtain ⟨hl, h'⟩ := h
  refine ⟨hl, ?_⟩
  rcases h' with h1 | ⟨g', cap', cur, hv, h1, hg, h2⟩
  · exact .inl h1
  · exact .inr ⟨g', cap', cur, hv, h1, (Below.heap_setCell w p x g' (by omega)).trans hg, h2⟩
theorem OwnT.cells {w : World} {base : Nat} {v : Value} {l : List Tok} (h : OwnT w base v l) (hne : l ≠ []) :
    ∃ g c, v = .slice (some ⟨g, 0, none⟩) l.length c ∧ l.length ≤ c ∧ base ≤ g ∧ g < w.heap.size ∧ ∀ k, k < l.length * 3 → w.cell? ⟨g, k, none⟩ = (toksCells l)[k]? := by
  obtain ⟨hl, h'⟩ := h
  rcases h' with ⟨_, h0⟩ | ⟨g, cap, cur, rfl, hb, hg, hn, hm, hs, ht⟩
  · exact absurd (List.eq_nil_of_length_eq_zero h0) hne
  · have hlt : g < w.heap.size := by
      rcases Nat.lt_or_ge g w.heap.size with h | h
      · exact h
      · rw [Array.getElem?_eq_none h] at hg; cases hg
    refine ⟨g, cap, rfl, hn, hb, hlt, fun k hk => ?_⟩
    rw [cell_of_row w g k cur _ (0, 0) hg, ← ht, List.getElem?_take, if_pos hk, Array.getElem?_toList]
theorem tok_cell {w W : World} {g : Nat} {l : List Tok} (h : ∀ j, j < l.length * 3 → w.cell? ⟨g, j, none⟩ = (toksCells l)[j]?) (hg : g < w.heap.size) (hb : Below w.heap.size w W) (k : Nat) (t : Tok) (r : List Tok) (hk : l.drop k = t :: r) :
    k < l.length ∧ W.cell? ⟨g, k * 3, none⟩ = some (.int .i64 t.kind) ∧ W.cell? ⟨g, k * 3 + 1, none⟩ = some (.string (strOfNums t.text)) ∧ W.cell? ⟨g, k * 3 + 2, none⟩ = some (.int .i64 t.place) := by
  have hlt : k < l.length := by
    rcases Nat.lt_or_ge k l.length with h | h
    · exact h
    · rw [List.drop_eq_nil_of_le h] at hk; cases hk
  have hc : ∀ j, j < 3 → (toksCells l)[k * 3 + j]? = (tokCells t)[j]? := by
    intro j hj
    have e : toksCells l = toksCells (l.take k) ++ (tokCells t ++ toksCells r) := by
      conv => lhs; rw [← List.take_append_drop k l, hk]
      simp [toksCells]
    have hl1 : (toksCells (l.take k)).length = k * 3 := by
      rw [toksCells_length, List.length_take]
      omega
    rw [e, List.getElem?_append_right (by omega), hl1, show k * 3 + j - k * 3 = j by omega, List.getElem?_append_left (by simp [tokCells]; omega)]
  refine ⟨hlt, ?_, ?_, ?_⟩
  · rw [hb.cell (p := ⟨g, k * 3, none⟩) hg, h _ (by omega)]
    exact hc 0 (by omega)
  · rw [hb.cell (p := ⟨g, k * 3 + 1, none⟩) hg, h _ (by omega)]
    exact hc 1 (by omega)
  · rw [hb.cell (p := ⟨g, k * 3 + 2, none⟩) hg, h _ (by omega)]
    exact hc 2 (by omega)
end Go.Proofs.YtdlfndjgncdgfaaGreatDoor
namespace Go.Proofs.YtdlfndjgncdgfaaGreatDoor
open Go.ChangeShapes Go.WideShapes Go.ChangeAt Go.RowKit

theorem sized_yes (n : Int) (w : World) (h : n = 1 ∨ n = 2 ∨ n = 4 ∨ n = 8) :
    Calls Tryz.prog 158 #[.int .i64 n] w fun e w' => e = .returned (.bool true) ∧ w = w' := by
  rcases h with rfl | rfl | rfl | rfl
  all_goals
    go_enter Tryz.func158, Tryz.ntmps158
    go_wp2
    go_ret
    exact ⟨rfl, rfl⟩
theorem sized_no (n : Int) (w : World) (h : ¬ (n = 1 ∨ n = 2 ∨ n = 4 ∨ n = 8)) :
    Calls Tryz.prog 158 #[.int .i64 n] w fun e w' => e = .returned (.bool false) ∧ w = w' := by
  have h1 : (n == 1) = false := by simp; omega
  have h2 : (n == 2) = false := by simp; omega
  have h4 : (n == 4) = false := by simp; omega
  have h8 : (n == 8) = false := by simp; omega
  clear h
  go_enter Tryz.func158, Tryz.ntmps158
  go_wp2
  go_ret
  exact ⟨rfl, rfl⟩
end Go.Proofs.YtdlfndjgncdgfaaGreatDoor
namespace Go.Proofs.YtdlfndjgncdgfaaGreatDoor
open Go.RowKit Go.Lib

def dec7_ren : Go.Shelf.Ren := ⟨fun | 32 => 148 | 49 => 162 | n => n, fun | 30 => 22 | 21 => 21 | 3 => 3 | 0 => 0 | 5 => 5 | 4 => 4 | 33 => 205 | 66 => 221 | 25 => 45 | 69 => 224 | 68 => 223 | n => n, fun | 2 => 1 | 3 => 2 | n => n⟩
theorem dec7 : Go.Proofs.Lays7.n32 Tryz.prog dec7_ren := {
  mixed := by kernel_rfl
  f32 := Tryz.func148.trans (congrArg some (by kernel_rfl))
  f49 := Tryz.func162.trans (congrArg some (by kernel_rfl))
  t0 := Tryz.underlying0
  a0 := Tryz.isAgg0
  z0 := Tryz.sizeOf0
  v0 := Tryz.zeroValue0
  i0 := by kernel_rfl
  t3 := Tryz.underlying3
  a3 := Tryz.isAgg3
  z3 := Tryz.sizeOf3
  v3 := Tryz.zeroValue3
  i3 := by kernel_rfl
  t4 := Tryz.underlying4
  a4 := Tryz.isAgg4
  z4 := Tryz.sizeOf4
  v4 := Tryz.zeroValue4
  i4 := by kernel_rfl
  t5 := Tryz.underlying5
  a5 := Tryz.isAgg5
  z5 := Tryz.sizeOf5
  v5 := Tryz.zeroValue5
  i5 := by kernel_rfl
  t21 := Tryz.underlying21
  a21 := Tryz.isAgg21
  z21 := Tryz.sizeOf21
  v21 := Tryz.zeroValue21
  i21 := by kernel_rfl
  t25 := Tryz.underlying45
  a25 := Tryz.isAgg45
  z25 := Tryz.sizeOf45
  v25 := Tryz.zeroValue45
  i25 := by kernel_rfl
  t30 := Tryz.underlying22
  a30 := Tryz.isAgg22
  z30 := Tryz.sizeOf22
  v30 := Tryz.zeroValue22
  i30 := by kernel_rfl
  t33 := Tryz.underlying205
  a33 := Tryz.isAgg205
  z33 := Tryz.sizeOf205
  v33 := Tryz.zeroValue205
  i33 := by kernel_rfl
  t66 := Tryz.underlying221
  a66 := Tryz.isAgg221
  z66 := Tryz.sizeOf221
  t68 := Tryz.underlying223
  a68 := Tryz.isAgg223
  z68 := Tryz.sizeOf223
  v68 := Tryz.zeroValue223
  i68 := by kernel_rfl
  t69 := Tryz.underlying224
  a69 := Tryz.isAgg224
  z69 := Tryz.sizeOf224
  v69 := Tryz.zeroValue224
  i69 := by kernel_rfl
  g2 := by kernel_rfl
  g3 := by kernel_rfl }

def Tabs (w : World) : Prop := Lib.Utf8Tabs 1 2 w
def tabs_ren : Go.Shelf.Ren := ⟨fun n => n, fun | 5 => 5 | 119 => 221 | 138 => 223 | 139 => 224 | n => n, fun | 3 => 1 | 4 => 2 | n => n⟩
theorem u8types : U8Types Tryz.prog tabs_ren := { t5 := Tryz.underlying5, t119 := Tryz.underlying221, t138 := Tryz.underlying223, t139 := Tryz.underlying224 }
theorem u8extra : U8Extra Tryz.prog tabs_ren := { n3 := by kernel_rfl, n4 := by kernel_rfl, y3 := by kernel_rfl, y4 := by kernel_rfl, c5 := by kernel_rfl, c119 := by kernel_rfl, c138 := by kernel_rfl }
theorem first_is : Rows.laid_unicode_utf8_first = Lib.firstData := by kernel_rfl
theorem accept_is : Rows.laid_unicode_utf8_acceptRanges (H := Unit) = Lib.acceptData := by kernel_rfl
theorem Tabs.sizes {w : World} (h : Tabs w) : 1 < w.heap.size ∧ 2 < w.heap.size := by
  constructor
  · exact World.block_lt_of_cell? _ _ (h.1 0 (by decide))
  · exact World.block_lt_of_cell? _ _ (h.2 0 (by decide)).1
theorem Tabs.below {w w' : World} {B : Nat} (h : Tabs w) (hB : w.heap.size ≤ B) (hb : Below B w w') : Tabs w' := by
  obtain ⟨s0, s1⟩ := h.sizes
  refine ⟨fun c hc => ?_, fun i hi => ⟨?_, ?_⟩⟩
  · exact (hb.cell (p := ⟨_, c, none⟩) (Nat.lt_of_lt_of_le s0 hB)).trans (h.1 c hc)
  · exact (hb.cell (p := ⟨_, 2 * i, none⟩) (Nat.lt_of_lt_of_le s1 hB)).trans (h.2 i hi).1
  · exact (hb.cell (p := ⟨_, 2 * i + 1, none⟩) (Nat.lt_of_lt_of_le s1 hB)).trans (h.2 i hi).2

/-! ### the bytes of a list of numbers -/
def bytesOf (zs : List Int) : ByteArray := ⟨(zs.map fun z => UInt8.ofNat z.toNat).toArray⟩
theorem bytesOf_size (zs : List Int) : (bytesOf zs).size = zs.length := by simp [bytesOf, ByteArray.size]
theorem bytesOf_get (zs : List Int) (hb : ∀ i, 0 ≤ zs.getD i 0 ∧ zs.getD i 0 ≤ 255) (j : Nat) (hj : j < zs.length) : (((bytesOf zs).get! j).toNat : Int) = zs.getD j 0 := by
  have h := hb j
  have e : zs.getD j 0 = zs[j] := by simp [List.getD, hj]
  rw [e] at h ⊢
  have : (bytesOf zs).get! j = UInt8.ofNat zs[j].toNat := by
    simp [bytesOf, ByteArray.get!, hj]
  rw [this]
  simp only [UInt8.toNat_ofNat']
  omega
def dec (zs : List Int) : Int × Int := (((Lib.decodeGo (bytesOf zs)).1 : Int), ((Lib.decodeGo (bytesOf zs)).2 : Int))
theorem dec_any (zs : List Int) (b off cap : Nat) (w : World) (hT : Tabs w) (hc : ∀ i, i < zs.length → w.cell? ⟨b, off + i, none⟩ = some (.int .u8 (zs.getD i 0))) (hb : ∀ i, 0 ≤ zs.getD i 0 ∧ zs.getD i 0 ≤ 255) :
    Calls Tryz.prog 148 #[.slice (some ⟨b, off, none⟩) zs.length cap] w fun e w' => e = .returned (.tuple #[.int .i32 (dec zs).1, .int .i64 (dec zs).2]) ∧ Below w.heap.size w w' := by
  have h := Any7.utf8_DecodeRune dec7 (bytesOf zs) b off cap w hT (fun j hj => by
    have hj' : j < zs.length := by rw [bytesOf_size] at hj; exact hj
    rw [hc j hj', bytesOf_get zs hb j hj'])
  rw [bytesOf_size] at h
  exact h
theorem decodeN_width (n b0 b1 b2 b3 : Nat) (hn : 0 < n) : 1 ≤ (Lib.decodeN n b0 b1 b2 b3).2 ∧ (Lib.decodeN n b0 b1 b2 b3).2 ≤ 4 ∧ (Lib.decodeN n b0 b1 b2 b3).2 ≤ n := by
  unfold Lib.decodeN
  repeat' split
  all_goals (simp only; omega)
theorem dec_width (zs : List Int) (h : 0 < zs.length) : 1 ≤ (dec zs).2 ∧ (dec zs).2 ≤ 4 ∧ (dec zs).2 ≤ zs.length := by
  have e : Lib.decodeGo (bytesOf zs) = Utf8.decode (bytesOf zs) 0 := by
    unfold Lib.decodeGo
    rw [if_neg (by rw [bytesOf_size]; omega)]
  unfold dec
  rw [e, Lib.decode_at, bytesOf_size]
  have := decodeN_width (zs.length - 0) ((bytesOf zs).get! 0).toNat ((bytesOf zs).get! (0 + 1)).toNat ((bytesOf zs).get! (0 + 2)).toNat ((bytesOf zs).get! (0 + 3)).toNat (by omega)
  simp only
  omega
end Go.Proofs.YtdlfndjgncdgfaaGreatDoor
namespace Go.Proofs.YtdlfndjgncdgfaaGreatDoor
open Go.Proofs Go.Shelf
def Tryz.lays103_ren : Go.Shelf.Ren := ⟨fun | 103 => 159 | 210 => 163 | 206 => 166 | n => n, fun | 9 => 9 | 4 => 4 | 24 => 213 | 3 => 3 | n => n, fun | n => n⟩
theorem Tryz.lays103 : Go.Proofs.Lays.n103 Tryz.prog Tryz.lays103_ren := {
  mixed := by kernel_rfl
  f103 := Tryz.func159.trans (congrArg some (by kernel_rfl))
  f206 := Tryz.func166.trans (congrArg some (by kernel_rfl))
  f210 := Tryz.func163.trans (congrArg some (by kernel_rfl))
  t3 := Tryz.underlying3
  a3 := Tryz.isAgg3
  z3 := Tryz.sizeOf3
  v3 := Tryz.zeroValue3
  t4 := Tryz.underlying4
  a4 := Tryz.isAgg4
  z4 := Tryz.sizeOf4
  v4 := Tryz.zeroValue4
  t9 := Tryz.underlying9
  a9 := Tryz.isAgg9
  z9 := Tryz.sizeOf9
  v9 := Tryz.zeroValue9
  t24 := Tryz.underlying213
  a24 := Tryz.isAgg213
  z24 := Tryz.sizeOf213
  v24 := Tryz.zeroValue213 }
open Go.RowKit in
theorem Tryz.strings_CutPrefix (s p : ByteArray) (w : World) :
    Calls Tryz.prog 159 #[.string s, .string p] w fun e w' => e = .returned (.tuple #[.string ⟨(Lib.trimPrefix s.data.toList p.data.toList).toArray⟩, .bool (Lib.hasPrefix s.data.toList p.data.toList)]) ∧ w' = w := Any.strings_CutPrefix Tryz.lays103 s p w
end Go.Proofs.YtdlfndjgncdgfaaGreatDoor
namespace Go.Proofs.YtdlfndjgncdgfaaGreatDoor
open Go.Proofs Go.Shelf
def Tryz.laysnb116_ren : Go.Shelf.Ren := ⟨fun | 116 => 105 | 115 => 131 | n => n, fun | 37 => 22 | 4 => 4 | 3 => 3 | 9 => 9 | 5 => 5 | n => n, fun | n => n⟩
theorem Tryz.laysnb116 : Go.Proofs.Lays.nb116 Tryz.prog Tryz.laysnb116_ren := {
  mixed := by kernel_rfl
  f115 := Tryz.func131.trans (congrArg some (by kernel_rfl))
  f116 := Tryz.func105.trans (congrArg some (by kernel_rfl))
  t3 := Tryz.underlying3
  a3 := Tryz.isAgg3
  z3 := Tryz.sizeOf3
  v3 := Tryz.zeroValue3
  t4 := Tryz.underlying4
  a4 := Tryz.isAgg4
  z4 := Tryz.sizeOf4
  v4 := Tryz.zeroValue4
  t9 := Tryz.underlying9
  a9 := Tryz.isAgg9
  z9 := Tryz.sizeOf9
  v9 := Tryz.zeroValue9
  t37 := Tryz.underlying22
  a37 := Tryz.isAgg22
  z37 := Tryz.sizeOf22
  v37 := Tryz.zeroValue22
  t5 := Tryz.underlying5
  a5 := Tryz.isAgg5
  z5 := Tryz.sizeOf5
  v5 := Tryz.zeroValue5 }
theorem Tryz.bytes_HasPrefix_all (p1 p2 : Option Addr) (n c m d : Nat) (xs ys : List Int) (w : World) (hx : xs.length = n) (hy : ys.length = m) (hnc : n ≤ c) (h1 : Lib.BytesIn w p1 n xs) (h2 : Lib.BytesIn w p2 m ys) :
    Calls Tryz.prog 105 #[.slice p1 n c, .slice p2 m d] w fun e w' => e = .returned (.bool (Lib.hasPrefix (Lib.bytesOf xs) (Lib.bytesOf ys))) ∧ w' = w := Any.bytes_HasPrefix_all Tryz.laysnb116 p1 p2 n c m d xs ys w hx hy hnc h1 h2
end Go.Proofs.YtdlfndjgncdgfaaGreatDoor
namespace Go.Proofs.YtdlfndjgncdgfaaGreatDoor
open Go.RowKit

theorem gap_blank {zs : List Int} {i : Nat} (h : stA zs isBlank i = true) : gap zs i = gap zs (i + 1) := by
  unfold gap
  rw [runTo_step h]
theorem slash_not_blank {zs : List Int} {i : Nat} (h : slash2 zs i = true) : stA zs isBlank i = false := by
  unfold slash2 at h
  rw [Bool.and_eq_true] at h
  have e := of_decide_eq_true (show decide (zs.getD i 0 = 47) = true from stA_p h.1)
  rw [stA_of (stA_lt h.1)]
  unfold isBlank
  exact decide_eq_false (by omega)
theorem gap_remark {zs : List Int} {i : Nat} (h : slash2 zs i = true) : gap zs i = gap zs (runTo zs notLf i) := by
  unfold gap
  rw [runTo_stop (slash_not_blank h), gapF_step h]
theorem gap_stop {zs : List Int} {i : Nat} (h1 : stA zs isBlank i = false) (h2 : slash2 zs i = false) : gap zs i = i := by
  unfold gap
  rw [runTo_stop h1, gapF_stop _ h2]
theorem gap_end {zs : List Int} {i : Nat} (h : zs.length ≤ i) : gap zs i = i :=
  gap_stop (stA_ge h) (by unfold slash2; rw [stA_ge h, Bool.false_and])
end Go.Proofs.YtdlfndjgncdgfaaGreatDoor
