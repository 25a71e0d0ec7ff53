/-
  The law ScanUnits' own function: a unit's four digits. Conditions: those that each theorem names.
-/
import Derived.Test.YtneadcbadnicfaaDoorRuneEnc
import Derived.Test.YtneadcbadnicfaaDoorSnO
import Derived.Test.YtneadcbadnicfaaDoorSnW
import Derived.BigRegion
namespace Go.Proofs.YtneadcbadnicfaaDoor
open Go.ChangeShapes Go.WideShapes Go.ChangeAt Go.RowKit Go.Shelf

theorem bts_of {s : ByteArray} {l : List Int} (h1 : s.size = l.length) (h2 : ∀ j, j < l.length → ((s.data.toList.getD j 0).toNat : Int) = l.getD j 0) : s = strOfNums l := by
  refine (strOf_bts' s).symm.trans (congrArg strOfNums ?_)
  refine List.ext_getElem (by rw [bts_length]; exact h1) (fun j ha hb => ?_)
  have h3 : j < s.data.toList.length := by rw [bts_length] at ha; exact ha
  have := h2 j hb
  rw [List.getD_eq_getElem?_getD, List.getElem?_eq_getElem h3, Option.getD_some, List.getD_eq_getElem?_getD, List.getElem?_eq_getElem hb, Option.getD_some] at this
  rw [← this]
  simp [bts]
theorem encode_str (c : Nat) (hc : isRune c) : Utf8.encode (c : Int) = strOfNums (enc c) := by
  obtain ⟨h1, h2⟩ := encode_enc c hc
  exact bts_of h1 h2
theorem idx_str (D : ByteArray) (k : IntKind) (i : Int) (h0 : 0 ≤ i) (h1 : i < (D.size : Int)) (W : World) : (Instr.index 9 (.string D) (.int k i)).run Tryd.prog W = .ok (.int .u8 ((bts D).getD i.toNat 0)) W := by
  rw [run_index_string _ _ _ _ _ Tryd.underlying9, bts_get (by omega), dif_pos ⟨h0, h1⟩]
theorem strOf_app (a b : List Int) : strOfNums (a ++ b) = strOfNums a ++ strOfNums b := by
  apply ByteArray.ext
  apply Array.ext'
  rw [strOfNums_data, ByteArray.data_append, Array.toList_append, strOfNums_data, strOfNums_data, List.map_append]
/-- A unit's text: a backslash, u, and four digits. -/
def uTxt (D : ByteArray) (n : Int) : List Int := [92, 117, (bts D).getD (n / 4096 % 16).toNat 0, (bts D).getD (n / 256 % 16).toNat 0, (bts D).getD (n / 16 % 16).toNat 0, (bts D).getD (n % 16).toNat 0]
theorem nib (x : Int) (h0 : 0 ≤ x) (h1 : x < 2147483648) : bits BinOp.and .i32 x 15 = x % 16 := bits_mask .i32 31 (by decide) wraps_i32 4 (by decide) _ h0 (by omega)
set_option maxHeartbeats 400000 in
theorem units1_any (B : Nat) (D : ByteArray) (hD : D.size = 16) (n : Int) (h0 : 0 ≤ n) (h1 : n ≤ 1114111) (w : World) (hB : w.cell? ⟨B, 0, none⟩ = some (.string D)) :
    Calls Tryd.prog 15 #[.int .i32 n, .pointer (some ⟨B, 0, none⟩)] w fun e w' => e = .returned (.string (strOfNums (uTxt D n))) ∧ Below w.heap.size w w' := by
  have a3 := nib (n / 4096) (by omega) (by omega)
  have a2 := nib (n / 256) (by omega) (by omega)
  have a1 := nib (n / 16) (by omega) (by omega)
  have a0 := nib n (by omega) (by omega)
  obtain ⟨K3, hK3⟩ : ∃ K, n / 4096 % 16 = K := ⟨_, rfl⟩
  obtain ⟨K2, hK2⟩ : ∃ K, n / 256 % 16 = K := ⟨_, rfl⟩
  obtain ⟨K1, hK1⟩ : ∃ K, n / 16 % 16 = K := ⟨_, rfl⟩
  obtain ⟨K0, hK0⟩ : ∃ K, n % 16 = K := ⟨_, rfl⟩
  have b3 : 0 ≤ K3 ∧ K3 < 16 := by omega
  have b2 : 0 ≤ K2 ∧ K2 < 16 := by omega
  have b1 : 0 ≤ K1 ∧ K1 < 16 := by omega
  have b0 : 0 ≤ K0 ∧ K0 < 16 := by omega
  obtain ⟨p3, q3⟩ := b3
  obtain ⟨p2, q2⟩ := b2
  obtain ⟨p1, q1⟩ := b1
  obtain ⟨p0, q0⟩ := b0
  have hU : uTxt D n = [92, 117, (bts D).getD K3.toNat 0, (bts D).getD K2.toNat 0, (bts D).getD K1.toNat 0, (bts D).getD K0.toNat 0] := by unfold uTxt; rw [hK3, hK2, hK1, hK0]
  rw [hU, bts_get (show K3.toNat < D.size by omega), bts_get (show K2.toNat < D.size by omega), bts_get (show K1.toNat < D.size by omega), bts_get (show K0.toNat < D.size by omega)]
  rw [hK3] at a3
  rw [hK2] at a2
  rw [hK1] at a1
  rw [hK0] at a0
  obtain ⟨X3, hX3⟩ : ∃ X, D[K3.toNat]'(by omega) = X := ⟨_, rfl⟩
  obtain ⟨X2, hX2⟩ : ∃ X, D[K2.toNat]'(by omega) = X := ⟨_, rfl⟩
  obtain ⟨X1, hX1⟩ : ∃ X, D[K1.toNat]'(by omega) = X := ⟨_, rfl⟩
  obtain ⟨X0, hX0⟩ : ∃ X, D[K0.toNat]'(by omega) = X := ⟨_, rfl⟩
  rw [hX3, hX2, hX1, hX0]
  have hS : strOfNums [92, 117, (X3.toNat : Int), (X2.toNat : Int), (X1.toNat : Int), (X0.toNat : Int)] = ⟨#[92, 117]⟩ ++ strOfNums [(X3.toNat : Int), (X2.toNat : Int), (X1.toNat : Int), (X0.toNat : Int)] := strOf_app [92, 117] [(X3.toNat : Int), (X2.toNat : Int), (X1.toNat : Int), (X0.toNat : Int)]
  have hXb : ∀ z ∈ [(X3.toNat : Int), (X2.toNat : Int), (X1.toNat : Int), (X0.toNat : Int)], 0 ≤ z ∧ z ≤ 255 := by
    intro z hz
    have l3 := X3.toNat_lt; have l2 := X2.toNat_lt; have l1 := X1.toNat_lt; have l0 := X0.toNat_lt
    simp at hz
    omega
  have cv : ∀ W : World, (convert 22 9 (.slice (some ⟨W.heap.size, 0, none⟩) 4 4)).run Tryd.prog (W.alloc (.cells #[.int .u8 (X3.toNat : Int), .int .u8 (X2.toNat : Int), .int .u8 (X1.toNat : Int), .int .u8 (X0.toNat : Int)] 5)).drew = .ok (.string (strOfNums [(X3.toNat : Int), (X2.toNat : Int), (X1.toNat : Int), (X0.toNat : Int)])) (W.alloc (.cells #[.int .u8 (X3.toNat : Int), .int .u8 (X2.toNat : Int), .int .u8 (X1.toNat : Int), .int .u8 (X0.toNat : Int)] 5)).drew := fun W =>
    conv_own (zs := [(X3.toNat : Int), (X2.toNat : Int), (X1.toNat : Int), (X0.toNat : Int)]) ((bytes_row (heap_alloc_new W _) hXb).below (Nat.le_refl _) (Below.refl _ _).drew) rfl 4
  have hsz : (strOfNums [(X3.toNat : Int), (X2.toNat : Int), (X1.toNat : Int), (X0.toNat : Int)]).size = 4 := by
    rw [← bts_length, bts_strOf _ hXb]
    rfl
  rw [hS]
  clear hS hXb h0 h1
  generalize strOfNums [(X3.toNat : Int), (X2.toNat : Int), (X1.toNat : Int), (X0.toNat : Int)] = S at cv hsz ⊢
  obtain ⟨R, hR⟩ : ∃ R : ByteArray, (⟨#[92, 117]⟩ : ByteArray) ++ S = R := ⟨_, rfl⟩
  have hcat : ∀ W, (Op.stringOp .add ⟨#[92, 117]⟩ S).run Tryd.prog W = .ok (.string R) W := fun W => by
    rw [← hR]
    exact run_string_add_sum W _ _ (by rw [hsz]; decide)
  rw [hR]
  clear hsz hR
  go_enter Tryd.func15, Tryd.ntmps15
  go_wp2
  go_region
  go_wp2
  go_ret
  exact ⟨rfl, ((Below.refl w.heap.size w).alloc (Nat.le_refl _) _).drew⟩
end Go.Proofs.YtneadcbadnicfaaDoor
