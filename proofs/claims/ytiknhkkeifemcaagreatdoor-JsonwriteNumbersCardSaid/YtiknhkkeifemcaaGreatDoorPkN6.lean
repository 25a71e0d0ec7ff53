/-
  The hand's source of bytes: next. Conditions: those that each theorem names.
-/
import Derived.Test.YtiknhkkeifemcaaGreatDoorPkN1
import Derived.Test.YtiknhkkeifemcaaGreatDoorPkN3
import Derived.Test.YtiknhkkeifemcaaGreatDoorPkN5
import Derived.BigQuiet
import Derived.Test.YtiknhkkeifemcaaGreatDoorRows
import Derived.WalkKit
import Derived.ProofKit
import Derived.OpenShut
import Derived.ShutString
import Derived.ChangeOld
import Derived.Below
import Derived.WalkLawsBesides
import Derived.WalkSpells
import Derived.Lib.Hide
import Derived.Outline
import Derived.Handy
namespace Go.Proofs.YtiknhkkeifemcaaGreatDoor
open Go.ChangeShapes Go.WideShapes Go.ChangeAt Go.RowKit

theorem rsigned_any (n s : Int) (w : World) (h0 : 0 ≤ n) (h1 : n ≤ 18446744073709551615) :
    Calls Tryz.prog 58 #[.int .u64 n, .int .i64 s] w fun e w' => e = .returned (.int .u64 (sgnOf n s)) ∧ w = w' := by
  by_cases e1 : s = 1
  · subst e1
    have ha := and_8 n h0 h1
    by_cases hlt : n % 256 < 128
    · have E : n % 256 = sgnOf n 1 := by rw [sgnOf_1, if_pos hlt]
      have H := Lib.hid E
      have ht : (n % 256 / 128 == 1) = false := by simp; omega
      clear E hlt
      go_enter Tryz.func58, Tryz.ntmps58
      go_wp2
      go_ret
      exact ⟨ret_int H.out, rfl⟩
    · have E : bits BinOp.or .u64 (n % 256) (IntKind.u64.wrap 4722366482869645213440) = sgnOf n 1 := by rw [sgnOf_1, if_neg hlt, show IntKind.u64.wrap 4722366482869645213440 = 18446744073709551360 from by decide, or_8 _ (by omega) (by omega)]
      have H := Lib.hid E
      have ht : (n % 256 / 128 == 1) = true := by simp; omega
      clear E hlt
      go_enter Tryz.func58, Tryz.ntmps58
      go_wp2
      go_ret
      exact ⟨ret_int H.out, rfl⟩
  by_cases e2 : s = 2
  · subst e2
    have ha := and_16 n h0 h1
    by_cases hlt : n % 65536 < 32768
    · have E : n % 65536 = sgnOf n 2 := by rw [sgnOf_2, if_pos hlt]
      have H := Lib.hid E
      have ht : (n % 65536 / 32768 == 1) = false := by simp; omega
      clear E hlt
      go_enter Tryz.func58, Tryz.ntmps58
      go_wp2
      go_ret
      exact ⟨ret_int H.out, rfl⟩
    · have E : bits BinOp.or .u64 (n % 65536) (IntKind.u64.wrap 1208925819614629174640640) = sgnOf n 2 := by rw [sgnOf_2, if_neg hlt, show IntKind.u64.wrap 1208925819614629174640640 = 18446744073709486080 from by decide, or_16 _ (by omega) (by omega)]
      have H := Lib.hid E
      have ht : (n % 65536 / 32768 == 1) = true := by simp; omega
      clear E hlt
      go_enter Tryz.func58, Tryz.ntmps58
      go_wp2
      go_ret
      exact ⟨ret_int H.out, rfl⟩
  by_cases e4 : s = 4
  · subst e4
    have ha := and_32 n h0 h1
    by_cases hlt : n % 4294967296 < 2147483648
    · have E : n % 4294967296 = sgnOf n 4 := by rw [sgnOf_4, if_pos hlt]
      have H := Lib.hid E
      have ht : (n % 4294967296 / 2147483648 == 1) = false := by simp; omega
      clear E hlt
      go_enter Tryz.func58, Tryz.ntmps58
      go_wp2
      go_ret
      exact ⟨ret_int H.out, rfl⟩
    · have E : bits BinOp.or .u64 (n % 4294967296) (IntKind.u64.wrap 79228162514264337589248983040) = sgnOf n 4 := by rw [sgnOf_4, if_neg hlt, show IntKind.u64.wrap 79228162514264337589248983040 = 18446744069414584320 from by decide, or_32 _ (by omega) (by omega)]
      have H := Lib.hid E
      have ht : (n % 4294967296 / 2147483648 == 1) = true := by simp; omega
      clear E hlt
      go_enter Tryz.func58, Tryz.ntmps58
      go_wp2
      go_ret
      exact ⟨ret_int H.out, rfl⟩
  have H := Lib.hid (sgnOf_else n s e1 e2 e4)
  have hs1 : (s != 1) = true := by simp; omega
  have hs2 : (s != 2) = true := by simp; omega
  have hs4 : (s != 4) = true := by simp; omega
  clear e1 e2 e4
  rw [H.out]
  go_enter Tryz.func58, Tryz.ntmps58
  go_wp2
  go_ret
  exact ⟨rfl, rfl⟩
theorem rsize_any (n : Int) (w : World) :
    Calls Tryz.prog 56 #[.int .i64 n] w fun e w' => e = .returned (.int .i64 (kSize n)) ∧ w = w' := by
  by_cases h : n < 1 ∨ 10 < n
  · have H := Lib.hid (kSize_else n h)
    have b1 : (n == 1) = false := by simp; omega
    have b2 : (n == 2) = false := by simp; omega
    have b3 : (n == 3) = false := by simp; omega
    have b4 : (n == 4) = false := by simp; omega
    have b5 : (n == 5) = false := by simp; omega
    have b6 : (n == 6) = false := by simp; omega
    have b7 : (n == 7) = false := by simp; omega
    have b8 : (n == 8) = false := by simp; omega
    have b9 : (n == 9) = false := by simp; omega
    have b10 : (n == 10) = false := by simp; omega
    clear h
    rw [H.out]
    go_enter Tryz.func56, Tryz.ntmps56
    go_wp2
    go_ret
    exact ⟨rfl, rfl⟩
  · have h' : n = 1 ∨ n = 2 ∨ n = 3 ∨ n = 4 ∨ n = 5 ∨ n = 6 ∨ n = 7 ∨ n = 8 ∨ n = 9 ∨ n = 10 := by omega
    clear h
    rcases h' with rfl | rfl | rfl | rfl | rfl | rfl | rfl | rfl | rfl | rfl
    all_goals
      go_enter Tryz.func56, Tryz.ntmps56
      go_wp2
      go_ret
      exact ⟨ret_int (by decide), rfl⟩
theorem rsign_any (n : Int) (w : World) :
    Calls Tryz.prog 57 #[.int .i64 n] w fun e w' => e = .returned (.bool (kSign n)) ∧ w = w' := by
  by_cases h1 : 2 ≤ n
  · by_cases h2 : n ≤ 5
    · rw [show kSign n = true from decide_eq_true ⟨h1, h2⟩]
      go_enter Tryz.func57, Tryz.ntmps57
      go_wp2
      go_ret
      exact ⟨rfl, rfl⟩
    · rw [show kSign n = false from decide_eq_false (fun h => h2 h.2)]
      go_enter Tryz.func57, Tryz.ntmps57
      go_wp2
      go_ret
      exact ⟨rfl, rfl⟩
  · rw [show kSign n = false from decide_eq_false (fun h => h1 h.1)]
    go_enter Tryz.func57, Tryz.ntmps57
    go_wp2
    go_ret
    exact ⟨rfl, rfl⟩
end Go.Proofs.YtiknhkkeifemcaaGreatDoor
namespace Go.Proofs.YtiknhkkeifemcaaGreatDoor
open Go.ChangeShapes Go.WideShapes Go.ChangeAt Go.RowKit Go.Shelf

structure Src (g : Nat) (a : Option Addr) (bs : List Int) (bc : Nat) (W : World) (i : Nat) : Prop where
  blk : W.heap[g]? = some (.cells #[.slice a bs.length bc, .int .i64 i] 102 (0, 0))
  le : i ≤ bs.length
  byt : Bytes W a bs
  low : bs ≠ [] → ∀ b off, a = some ⟨b, off, none⟩ → b ≠ g
  len : (bs.length : Int) ≤ 9223372036854775807
  cap : bs.length ≤ bc
theorem Src.below {g : Nat} {a : Option Addr} {bs : List Int} {bc : Nat} {W W' : World} {i : Nat} (h : Src g a bs bc W i) (hb : Below W.heap.size W W') : Src g a bs bc W' i :=
  ⟨blk_below h.blk hb (blk_lt h.blk), h.le, h.byt.below (Nat.le_refl _) hb, h.low, h.len, h.cap⟩
theorem Bytes.exc {w w' : World} {R B : Nat} {a : Option Addr} {bs : List Int} (h : Bytes w a bs) (hb : Exc R B w w') (hB : w.heap.size ≤ B) (hR : bs ≠ [] → ∀ b off, a = some ⟨b, off, none⟩ → b ≠ R) : Bytes w' a bs := by
  refine ⟨h.1, fun hne => ?_⟩
  obtain ⟨b, off, rfl, hlt, hc⟩ := h.2 hne
  exact ⟨b, off, rfl, Nat.lt_of_lt_of_le hlt hb.size, fun i hi => (hb.cell (p := ⟨b, off + i, none⟩) (Nat.lt_of_lt_of_le hlt hB) (hR hne b off rfl)).trans (hc i hi)⟩
theorem Src.put {g : Nat} {a : Option Addr} {bs : List Int} {bc : Nat} {W : World} {i : Nat} (h : Src g a bs bc W i) (hi : i < bs.length) : Src g a bs bc (W.setCell ⟨g, 1, none⟩ (.int .i64 ((i : Int) + 1))) (i + 1) :=
  ⟨blk_set h.blk 1 _, hi, h.byt.exc (exc_set W g 1 _) (Nat.le_refl _) h.low, h.low, h.len, h.cap⟩
end Go.Proofs.YtiknhkkeifemcaaGreatDoor
