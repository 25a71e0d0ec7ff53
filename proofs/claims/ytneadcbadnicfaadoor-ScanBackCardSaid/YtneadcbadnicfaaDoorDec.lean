/-
  What unicode/utf8.DecodeRune hands back at every slice of bytes that is not nil: the library's own contract, laid at this translation; and that the two tables it reads are those that the row lists. Condition: the tables hold what the row lists.
-/
import Derived.Test.YtneadcbadnicfaaDoorRows
import Derived.Test.YtneadcbadnicfaaDoorNum
import Derived.Shelf.Spec.DecodeRune
import Derived.Lib.LaidU8T
import Derived.KernelRfl
namespace Go.Proofs.YtneadcbadnicfaaDoor
open Go.RowKit Go.Lib

def dec7_ren : Go.Shelf.Ren := ⟨fun | 32 => 49 | 49 => 62 | n => n, fun | 30 => 22 | 21 => 21 | 3 => 3 | 0 => 0 | 5 => 5 | 4 => 4 | 33 => 75 | 66 => 94 | 25 => 40 | 69 => 97 | 68 => 96 | n => n, fun | 2 => 0 | 3 => 1 | n => n⟩
theorem dec7 : Go.Proofs.Lays7.n32 Tryd.prog dec7_ren := {
  mixed := by kernel_rfl
  f32 := Tryd.func49.trans (congrArg some (by kernel_rfl))
  f49 := Tryd.func62.trans (congrArg some (by kernel_rfl))
  t0 := Tryd.underlying0
  a0 := Tryd.isAgg0
  z0 := Tryd.sizeOf0
  v0 := Tryd.zeroValue0
  i0 := by kernel_rfl
  t3 := Tryd.underlying3
  a3 := Tryd.isAgg3
  z3 := Tryd.sizeOf3
  v3 := Tryd.zeroValue3
  i3 := by kernel_rfl
  t4 := Tryd.underlying4
  a4 := Tryd.isAgg4
  z4 := Tryd.sizeOf4
  v4 := Tryd.zeroValue4
  i4 := by kernel_rfl
  t5 := Tryd.underlying5
  a5 := Tryd.isAgg5
  z5 := Tryd.sizeOf5
  v5 := Tryd.zeroValue5
  i5 := by kernel_rfl
  t21 := Tryd.underlying21
  a21 := Tryd.isAgg21
  z21 := Tryd.sizeOf21
  v21 := Tryd.zeroValue21
  i21 := by kernel_rfl
  t25 := Tryd.underlying40
  a25 := Tryd.isAgg40
  z25 := Tryd.sizeOf40
  v25 := Tryd.zeroValue40
  i25 := by kernel_rfl
  t30 := Tryd.underlying22
  a30 := Tryd.isAgg22
  z30 := Tryd.sizeOf22
  v30 := Tryd.zeroValue22
  i30 := by kernel_rfl
  t33 := Tryd.underlying75
  a33 := Tryd.isAgg75
  z33 := Tryd.sizeOf75
  v33 := Tryd.zeroValue75
  i33 := by kernel_rfl
  t66 := Tryd.underlying94
  a66 := Tryd.isAgg94
  z66 := Tryd.sizeOf94
  t68 := Tryd.underlying96
  a68 := Tryd.isAgg96
  z68 := Tryd.sizeOf96
  v68 := Tryd.zeroValue96
  i68 := by kernel_rfl
  t69 := Tryd.underlying97
  a69 := Tryd.isAgg97
  z69 := Tryd.sizeOf97
  v69 := Tryd.zeroValue97
  i69 := by kernel_rfl
  g2 := by kernel_rfl
  g3 := by kernel_rfl }

/-- The two tables lie in memory as the library lays them. -/
def Tabs (w : World) : Prop := Lib.Utf8Tabs 0 1 w
def tabs_ren : Go.Shelf.Ren := ⟨fun n => n, fun | 5 => 5 | 119 => 94 | 138 => 96 | 139 => 97 | n => n, fun | 3 => 0 | 4 => 1 | n => n⟩
theorem u8types : U8Types Tryd.prog tabs_ren := { t5 := Tryd.underlying5, t119 := Tryd.underlying94, t138 := Tryd.underlying96, t139 := Tryd.underlying97 }
theorem u8extra : U8Extra Tryd.prog tabs_ren := { n3 := by kernel_rfl, n4 := by kernel_rfl, y3 := by kernel_rfl, y4 := by kernel_rfl, c5 := by kernel_rfl, c119 := by kernel_rfl, c138 := by kernel_rfl }
theorem first_is : Rows.laid_unicode_utf8_first = Lib.firstData := by kernel_rfl
theorem accept_is : Rows.laid_unicode_utf8_acceptRanges (H := Unit) = Lib.acceptData := by kernel_rfl
theorem tabs_of_laid {W : World} (h : laidMetH Tryd.prog [("unicode/utf8.acceptRanges", Rows.laid_unicode_utf8_acceptRanges), ("unicode/utf8.first", Rows.laid_unicode_utf8_first)] W) : Tabs W := by
  have h' : laidMet Tryd.prog [("unicode/utf8.acceptRanges", Rows.laid_unicode_utf8_acceptRanges), ("unicode/utf8.first", Rows.laid_unicode_utf8_first)] W := h
  refine utf8Tabs_of_readsT u8types u8extra ?_ ?_
  · rw [← first_is]; exact laidMet.reads h' (by simp)
  · rw [← accept_is]; exact laidMet.reads h' (by simp)
theorem Tabs.sizes {w : World} (h : Tabs w) : 0 < w.heap.size ∧ 1 < w.heap.size := by
  constructor
  · exact World.block_lt_of_cell? _ _ (h.1 0 (by decide))
  · exact World.block_lt_of_cell? _ _ (h.2 0 (by decide)).1
theorem Tabs.below {w w' : World} {B : Nat} (h : Tabs w) (hB : w.heap.size ≤ B) (hb : Below B w w') : Tabs w' := by
  obtain ⟨s0, s1⟩ := h.sizes
  refine ⟨fun c hc => ?_, fun i hi => ⟨?_, ?_⟩⟩
  · exact (hb.cell (p := ⟨_, c, none⟩) (Nat.lt_of_lt_of_le s0 hB)).trans (h.1 c hc)
  · exact (hb.cell (p := ⟨_, 2 * i, none⟩) (Nat.lt_of_lt_of_le s1 hB)).trans (h.2 i hi).1
  · exact (hb.cell (p := ⟨_, 2 * i + 1, none⟩) (Nat.lt_of_lt_of_le s1 hB)).trans (h.2 i hi).2

/-! ### the bytes of a list of numbers -/
def bytesOf (zs : List Int) : ByteArray := ⟨(zs.map fun z => UInt8.ofNat z.toNat).toArray⟩
theorem bytesOf_size (zs : List Int) : (bytesOf zs).size = zs.length := by simp [bytesOf, ByteArray.size]
theorem bytesOf_get (zs : List Int) (hb : ∀ i, 0 ≤ zs.getD i 0 ∧ zs.getD i 0 ≤ 255) (j : Nat) (hj : j < zs.length) : (((bytesOf zs).get! j).toNat : Int) = zs.getD j 0 := by
  have h := hb j
  have e : zs.getD j 0 = zs[j] := by simp [List.getD, hj]
  rw [e] at h ⊢
  have : (bytesOf zs).get! j = UInt8.ofNat zs[j].toNat := by
    simp [bytesOf, ByteArray.get!, hj]
  rw [this]
  simp only [UInt8.toNat_ofNat']
  omega
/-- The sign at the head of the bytes, and how many bytes it takes. -/
def dec (zs : List Int) : Int × Int := (((Lib.decodeGo (bytesOf zs)).1 : Int), ((Lib.decodeGo (bytesOf zs)).2 : Int))
theorem dec_any (zs : List Int) (b off cap : Nat) (w : World) (hT : Tabs w) (hc : ∀ i, i < zs.length → w.cell? ⟨b, off + i, none⟩ = some (.int .u8 (zs.getD i 0))) (hb : ∀ i, 0 ≤ zs.getD i 0 ∧ zs.getD i 0 ≤ 255) :
    Calls Tryd.prog 49 #[.slice (some ⟨b, off, none⟩) zs.length cap] w fun e w' => e = .returned (.tuple #[.int .i32 (dec zs).1, .int .i64 (dec zs).2]) ∧ Below w.heap.size w w' := by
  have h := Any7.utf8_DecodeRune dec7 (bytesOf zs) b off cap w hT (fun j hj => by
    have hj' : j < zs.length := by rw [bytesOf_size] at hj; exact hj
    rw [hc j hj', bytesOf_get zs hb j hj'])
  rw [bytesOf_size] at h
  exact h
theorem dec_nil_len (zs : List Int) (h : zs.length = 0) : dec zs = (65533, 0) := by
  have : zs = [] := List.eq_nil_of_length_eq_zero h
  subst this
  rfl
theorem decodeN_width (n b0 b1 b2 b3 : Nat) (hn : 0 < n) : 1 ≤ (Lib.decodeN n b0 b1 b2 b3).2 ∧ (Lib.decodeN n b0 b1 b2 b3).2 ≤ 4 ∧ (Lib.decodeN n b0 b1 b2 b3).2 ≤ n := by
  unfold Lib.decodeN
  repeat' split
  all_goals (simp only; omega)
theorem dec_width (zs : List Int) (h : 0 < zs.length) : 1 ≤ (dec zs).2 ∧ (dec zs).2 ≤ 4 ∧ (dec zs).2 ≤ zs.length := by
  have e : Lib.decodeGo (bytesOf zs) = Utf8.decode (bytesOf zs) 0 := by
    unfold Lib.decodeGo
    rw [if_neg (by rw [bytesOf_size]; omega)]
  unfold dec
  rw [e, Lib.decode_at, bytesOf_size]
  have := decodeN_width (zs.length - 0) ((bytesOf zs).get! 0).toNat ((bytesOf zs).get! (0 + 1)).toNat ((bytesOf zs).get! (0 + 2)).toNat ((bytesOf zs).get! (0 + 3)).toNat (by omega)
  simp only
  omega
end Go.Proofs.YtneadcbadnicfaaDoor
