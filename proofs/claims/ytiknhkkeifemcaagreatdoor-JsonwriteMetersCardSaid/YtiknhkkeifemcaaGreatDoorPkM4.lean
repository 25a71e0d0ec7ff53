/-
  Texts as bytes, plain: put together, cut; when a number's text is right. Conditions: those that each theorem names.
-/
import Derived.Test.YtiknhkkeifemcaaGreatDoorPkM1
import Derived.Laws.BytesArg
import Derived.Test.YtiknhkkeifemcaaGreatDoorRows
import Derived.WalkKit
import Derived.ProofKit
import Derived.OpenShut
import Derived.ShutString
import Derived.ChangeOld
import Derived.Below
import Derived.WalkLawsBesides
import Derived.WalkSpells
import Derived.Lib.Hide
import Derived.Outline
import Derived.Handy
import Derived.Deep.Cut
import Derived.Lib.Strings
namespace Go.Proofs.YtiknhkkeifemcaaGreatDoor
open Go.ChangeShapes Go.WideShapes Go.ChangeAt Go.RowKit

theorem rsigned_any (n s : Int) (w : World) (h0 : 0 ≤ n) (h1 : n ≤ 18446744073709551615) :
    Calls Tryz.prog 58 #[.int .u64 n, .int .i64 s] w fun e w' => e = .returned (.int .u64 (sgnOf n s)) ∧ w = w' := by
  by_cases e1 : s = 1
  · subst e1
    have ha := and_8 n h0 h1
    by_cases hlt : n % 256 < 128
    · have E : n % 256 = sgnOf n 1 := by rw [sgnOf_1, if_pos hlt]
      have H := Lib.hid E
      have ht : (n % 256 / 128 == 1) = false := by simp; omega
      clear E hlt
      go_enter Tryz.func58, Tryz.ntmps58
      go_wp2
      go_ret
      exact ⟨ret_int H.out, rfl⟩
    · have E : bits BinOp.or .u64 (n % 256) (IntKind.u64.wrap 4722366482869645213440) = sgnOf n 1 := by rw [sgnOf_1, if_neg hlt, show IntKind.u64.wrap 4722366482869645213440 = 18446744073709551360 from by decide, or_8 _ (by omega) (by omega)]
      have H := Lib.hid E
      have ht : (n % 256 / 128 == 1) = true := by simp; omega
      clear E hlt
      go_enter Tryz.func58, Tryz.ntmps58
      go_wp2
      go_ret
      exact ⟨ret_int H.out, rfl⟩
  by_cases e2 : s = 2
  · subst e2
    have ha := and_16 n h0 h1
    by_cases hlt : n % 65536 < 32768
    · have E : n % 65536 = sgnOf n 2 := by rw [sgnOf_2, if_pos hlt]
      have H := Lib.hid E
      have ht : (n % 65536 / 32768 == 1) = false := by simp; omega
      clear E hlt
      go_enter Tryz.func58, Tryz.ntmps58
      go_wp2
      go_ret
      exact ⟨ret_int H.out, rfl⟩
    · have E : bits BinOp.or .u64 (n % 65536) (IntKind.u64.wrap 1208925819614629174640640) = sgnOf n 2 := by rw [sgnOf_2, if_neg hlt, show IntKind.u64.wrap 1208925819614629174640640 = 18446744073709486080 from by decide, or_16 _ (by omega) (by omega)]
      have H := Lib.hid E
      have ht : (n % 65536 / 32768 == 1) = true := by simp; omega
      clear E hlt
      go_enter Tryz.func58, Tryz.ntmps58
      go_wp2
      go_ret
      exact ⟨ret_int H.out, rfl⟩
  by_cases e4 : s = 4
  · subst e4
    have ha := and_32 n h0 h1
    by_cases hlt : n % 4294967296 < 2147483648
    · have E : n % 4294967296 = sgnOf n 4 := by rw [sgnOf_4, if_pos hlt]
      have H := Lib.hid E
      have ht : (n % 4294967296 / 2147483648 == 1) = false := by simp; omega
      clear E hlt
      go_enter Tryz.func58, Tryz.ntmps58
      go_wp2
      go_ret
      exact ⟨ret_int H.out, rfl⟩
    · have E : bits BinOp.or .u64 (n % 4294967296) (IntKind.u64.wrap 79228162514264337589248983040) = sgnOf n 4 := by rw [sgnOf_4, if_neg hlt, show IntKind.u64.wrap 79228162514264337589248983040 = 18446744069414584320 from by decide, or_32 _ (by omega) (by omega)]
      have H := Lib.hid E
      have ht : (n % 4294967296 / 2147483648 == 1) = true := by simp; omega
      clear E hlt
      go_enter Tryz.func58, Tryz.ntmps58
      go_wp2
      go_ret
      exact ⟨ret_int H.out, rfl⟩
  have H := Lib.hid (sgnOf_else n s e1 e2 e4)
  have hs1 : (s != 1) = true := by simp; omega
  have hs2 : (s != 2) = true := by simp; omega
  have hs4 : (s != 4) = true := by simp; omega
  clear e1 e2 e4
  rw [H.out]
  go_enter Tryz.func58, Tryz.ntmps58
  go_wp2
  go_ret
  exact ⟨rfl, rfl⟩
theorem rsize_any (n : Int) (w : World) :
    Calls Tryz.prog 56 #[.int .i64 n] w fun e w' => e = .returned (.int .i64 (kSize n)) ∧ w = w' := by
  by_cases h : n < 1 ∨ 10 < n
  · have H := Lib.hid (kSize_else n h)
    have b1 : (n == 1) = false := by simp; omega
    have b2 : (n == 2) = false := by simp; omega
    have b3 : (n == 3) = false := by simp; omega
    have b4 : (n == 4) = false := by simp; omega
    have b5 : (n == 5) = false := by simp; omega
    have b6 : (n == 6) = false := by simp; omega
    have b7 : (n == 7) = false := by simp; omega
    have b8 : (n == 8) = false := by simp; omega
    have b9 : (n == 9) = false := by simp; omega
    have b10 : (n == 10) = false := by simp; omega
    clear h
    rw [H.out]
    go_enter Tryz.func56, Tryz.ntmps56
    go_wp2
    go_ret
    exact ⟨rfl, rfl⟩
  · have h' : n = 1 ∨ n = 2 ∨ n = 3 ∨ n = 4 ∨ n = 5 ∨ n = 6 ∨ n = 7 ∨ n = 8 ∨ n = 9 ∨ n = 10 := by omega
    clear h
    rcases h' with rfl | rfl | rfl | rfl | rfl | rfl | rfl | rfl | rfl | rfl
    all_goals
      go_enter Tryz.func56, Tryz.ntmps56
      go_wp2
      go_ret
      exact ⟨ret_int (by decide), rfl⟩
theorem rsign_any (n : Int) (w : World) :
    Calls Tryz.prog 57 #[.int .i64 n] w fun e w' => e = .returned (.bool (kSign n)) ∧ w = w' := by
  by_cases h1 : 2 ≤ n
  · by_cases h2 : n ≤ 5
    · rw [show kSign n = true from decide_eq_true ⟨h1, h2⟩]
      go_enter Tryz.func57, Tryz.ntmps57
      go_wp2
      go_ret
      exact ⟨rfl, rfl⟩
    · rw [show kSign n = false from decide_eq_false (fun h => h2 h.2)]
      go_enter Tryz.func57, Tryz.ntmps57
      go_wp2
      go_ret
      exact ⟨rfl, rfl⟩
  · rw [show kSign n = false from decide_eq_false (fun h => h1 h.1)]
    go_enter Tryz.func57, Tryz.ntmps57
    go_wp2
    go_ret
    exact ⟨rfl, rfl⟩
end Go.Proofs.YtiknhkkeifemcaaGreatDoor
namespace Go.Proofs.YtiknhkkeifemcaaGreatDoor
open Go.ChangeShapes Go.WideShapes Go.ChangeAt Go.RowKit

theorem one_str (W : World) (z : Int) : (convert 22 9 (.slice (some ⟨W.heap.size, 0, none⟩) 1 1)).run Tryz.prog (W.alloc (.cells #[.int .u8 z] 5)) = .ok (.string (strOfNums [z])) (W.alloc (.cells #[.int .u8 z] 5)) := by
  refine run_convert_bytes_arg (P := Tryz.prog) _ 22 5 Tryz.underlying22 Tryz.underlying5 W.heap.size 0 1 1 [z] rfl (fun k hk => ?_) 9 Tryz.underlying9
  obtain rfl : k = 0 := by omega
  rw [cell_of_row _ _ _ _ _ (0, 0) (heap_alloc_new W _)]
  rfl
end Go.Proofs.YtiknhkkeifemcaaGreatDoor
namespace Go.Proofs.YtiknhkkeifemcaaGreatDoor
open Go.ChangeShapes Go.WideShapes Go.ChangeAt Go.RowKit

def Bytes (w : World) (p : Option Addr) (zs : List Int) : Prop :=
  (∀ i, 0 ≤ zs.getD i 0 ∧ zs.getD i 0 ≤ 255) ∧ (zs ≠ [] → ∃ b off, p = some ⟨b, off, none⟩ ∧ b < w.heap.size ∧ ∀ i, i < zs.length → w.cell? ⟨b, off + i, none⟩ = some (.int .u8 (zs.getD i 0)))
theorem Bytes.below {w w' : World} {p : Option Addr} {zs : List Int} {B : Nat} (h : Bytes w p zs) (hB : w.heap.size ≤ B) (hb : Below B w w') : Bytes w' p zs := by
  refine ⟨h.1, fun hne => ?_⟩
  obtain ⟨b, off, rfl, hlt, hc⟩ := h.2 hne
  exact ⟨b, off, rfl, Nat.lt_of_lt_of_le hlt hb.size, fun i hi => (hb.cell (p := ⟨b, off + i, none⟩) (Nat.lt_of_lt_of_le hlt hB)).trans (hc i hi)⟩
end Go.Proofs.YtiknhkkeifemcaaGreatDoor
namespace Go.Proofs.YtiknhkkeifemcaaGreatDoor
open Go.ChangeShapes Go.WideShapes Go.ChangeAt Go.RowKit Go.Shelf

theorem bts_get {s : ByteArray} {i : Nat} (h : i < s.size) : (bts s).getD i 0 = (s[i].toNat : Int) := by
  simp [bts, List.getD, h]
  rfl
theorem bts_end {s : ByteArray} {i : Nat} (h : s.size ≤ i) : (bts s).getD i 0 = 0 := by
  rw [List.getD, List.getElem?_eq_none (by rw [bts_length]; exact h)]
  rfl
theorem bts_append (a b : ByteArray) : bts (a ++ b) = bts a ++ bts b := by simp [bts]
theorem bts_strOf (zs : List Int) (h : ∀ z ∈ zs, 0 ≤ z ∧ z ≤ 255) : bts (strOfNums zs) = zs := by
  unfold bts
  rw [strOfNums_data, List.map_map]
  conv => rhs; rw [← List.map_id zs]
  refine List.map_congr_left fun z hz => ?_
  have := h z hz
  simp only [Function.comp, UInt8.toNat_ofNat', id]
  omega
end Go.Proofs.YtiknhkkeifemcaaGreatDoor
