/-
  What the functions of the package wire hand back, each by a walk of its text: Next, Sized, Within, Load. Conditions: those that each theorem names.
-/
import Derived.Test.YtjnpfjiphhnoiaaDoorRows
import Derived.Test.YtjnpfjiphhnoiaaDoorNum
import Derived.WalkKit
import Derived.ProofKit
import Derived.OpenShut
import Derived.ShutString
import Derived.ChangeOld
import Derived.Below
import Derived.WalkLawsBesides
import Derived.WalkSpells
import Derived.Lib.Hide
import Derived.Outline
import Derived.Handy
namespace Go.Proofs.YtjnpfjiphhnoiaaDoor
open Go.ChangeShapes Go.WideShapes Go.ChangeAt Go.RowKit

theorem next_yes (a n m : Int) (w : World) (h0 : 0 ≤ a) (h1 : 0 ≤ n) (h2 : a ≤ m) (h3 : n ≤ m - a) (hm : m ≤ 9223372036854775807) :
    Calls Tryd.prog 24 #[.int .i64 a, .int .i64 n, .int .i64 m] w fun e w' => e = .returned (.tuple #[.int .i64 (a + n), .bool true]) ∧ w = w' := by
  go_enter Tryd.func24, Tryd.ntmps24
  go_wp2
  go_ret2
  exact ⟨rfl, rfl⟩
theorem next_no (a n m : Int) (w : World) (h : a < 0 ∨ n < 0 ∨ m < a ∨ m - a < n) (hm : m ≤ 9223372036854775807) :
    Calls Tryd.prog 24 #[.int .i64 a, .int .i64 n, .int .i64 m] w fun e w' => e = .returned (.tuple #[.int .i64 0, .bool false]) ∧ w = w' := by
  by_cases h0 : a < 0
  · go_enter Tryd.func24, Tryd.ntmps24
    go_wp2
    go_ret2
    exact ⟨rfl, rfl⟩
  by_cases h1 : n < 0
  · go_enter Tryd.func24, Tryd.ntmps24
    go_wp2
    go_ret2
    exact ⟨rfl, rfl⟩
  by_cases h2 : m < a
  · go_enter Tryd.func24, Tryd.ntmps24
    go_wp2
    go_ret2
    exact ⟨rfl, rfl⟩
  have h3 : m - a < n := by omega
  clear h
  go_enter Tryd.func24, Tryd.ntmps24
  go_wp2
  go_ret2
  exact ⟨rfl, rfl⟩
theorem sized_yes (n : Int) (w : World) (h : n = 1 ∨ n = 2 ∨ n = 4 ∨ n = 8) :
    Calls Tryd.prog 20 #[.int .i64 n] w fun e w' => e = .returned (.bool true) ∧ w = w' := by
  rcases h with rfl | rfl | rfl | rfl
  all_goals
    go_enter Tryd.func20, Tryd.ntmps20
    go_wp2
    go_ret
    exact ⟨rfl, rfl⟩
theorem sized_no (n : Int) (w : World) (h : ¬ (n = 1 ∨ n = 2 ∨ n = 4 ∨ n = 8)) :
    Calls Tryd.prog 20 #[.int .i64 n] w fun e w' => e = .returned (.bool false) ∧ w = w' := by
  have h1 : (n == 1) = false := by simp; omega
  have h2 : (n == 2) = false := by simp; omega
  have h4 : (n == 4) = false := by simp; omega
  have h8 : (n == 8) = false := by simp; omega
  clear h
  go_enter Tryd.func20, Tryd.ntmps20
  go_wp2
  go_ret
  exact ⟨rfl, rfl⟩
theorem within_yes (p : Option Addr) (len cap : Nat) (a n : Int) (w : World) (hl : (len : Int) ≤ 9223372036854775807) (h0 : 0 ≤ a) (h1 : 0 ≤ n) (h2 : a ≤ len) (h3 : n ≤ len - a) :
    Calls Tryd.prog 21 #[.slice p len cap, .int .i64 a, .int .i64 n] w fun e w' => e = .returned (.bool true) ∧ w = w' := by
  go_enter Tryd.func21, Tryd.ntmps21
  go_wp2_with (go_at_call 24; refine (next_yes a n len _ h0 h1 h2 h3 hl).mono ?_; rintro e w' ⟨rfl, rfl⟩)
  go_ret
  exact ⟨rfl, rfl⟩
theorem within_no (p : Option Addr) (len cap : Nat) (a n : Int) (w : World) (hl : (len : Int) ≤ 9223372036854775807) (h : a < 0 ∨ n < 0 ∨ (len : Int) < a ∨ len - a < n) :
    Calls Tryd.prog 21 #[.slice p len cap, .int .i64 a, .int .i64 n] w fun e w' => e = .returned (.bool false) ∧ w = w' := by
  go_enter Tryd.func21, Tryd.ntmps21
  go_wp2_with (go_at_call 24; refine (next_no a n len _ h hl).mono ?_; rintro e w' ⟨rfl, rfl⟩)
  go_ret
  exact ⟨rfl, rfl⟩

theorem load_yes (b off len cap : Nat) (a n : Int) (w : World) (zs : List Int) (hl : (len : Int) ≤ 9223372036854775807) (hz : len ≤ zs.length)
    (hc : ∀ i, i < zs.length → w.cell? ⟨b, off + i, none⟩ = some (.int .u8 (zs.getD i 0))) (hb : ∀ i, 0 ≤ zs.getD i 0 ∧ zs.getD i 0 ≤ 255) (h0 : 0 ≤ a) (h2 : a ≤ len) (h3 : n ≤ len - a) (hn : n = 1 ∨ n = 2 ∨ n = 4 ∨ n = 8) :
    Calls Tryd.prog 19 #[.slice (some ⟨b, off, none⟩) len cap, .int .i64 a, .int .i64 n] w fun e w' => e = .returned (.tuple #[.int .u64 (leAt zs a.toNat n.toNat), .bool true]) ∧ w = w' := by
  obtain ⟨a, rfl⟩ := Int.eq_ofNat_of_zero_le h0
  obtain ⟨f, hf⟩ : ∃ f : Nat → Int, f = fun j => zs.getD (a + j) 0 := ⟨_, rfl⟩
  have HF := Lib.hid (show ∀ k : Nat, leNum f k = leAt zs (a : Int).toNat (k : Int).toNat from fun k => by rw [hf]; rfl)
  have hcell : ∀ k : Nat, (k : Int) < n → w.cell? ⟨b, off + (a + k), none⟩ = some (.int .u8 (f k)) := fun k hk => by rw [hf]; exact hc _ (by omega)
  have hfb : ∀ j, j < n.toNat → 0 ≤ f j ∧ f j ≤ 255 := fun j _ => by rw [hf]; exact hb _
  clear hc hb hf
  have hn1 : 0 ≤ n := by omega
  have hn8 : n ≤ 8 := by omega
  have HB := Lib.hid hfb
  have HC := Lib.hid hcell
  clear hfb hcell
  go_enter Tryd.func19, Tryd.ntmps19
  go_wp2_with (first | (go_at_call 20; refine (sized_yes _ _ hn).mono ?_; rintro e w' ⟨rfl, rfl⟩) | (go_at_call 21; refine (within_yes _ _ _ _ _ _ hl h0 hn1 h2 h3).mono ?_; rintro e w' ⟨rfl, rfl⟩))
  go_loop [8, 21] (fun x i => ∃ k : Nat, (k : Int) ≤ n ∧ i = .int .i64 k ∧ x = .int .u64 (leNum f k)) (fun _ i => (n - intOf i).toNat)
  case atStart => exact ⟨0, hn1, rfl, rfl⟩
  case round =>
    obtain ⟨k, hk, rfl, rfl⟩ := hrel
    by_cases hlt : (k : Int) < n
    · have hcl := HC.out k hlt
      have b1 := leNum_bd f n.toNat HB.out k (by omega)
      have b2 := HB.out k (by omega)
      have E := Lib.hid (or_byte k (by omega) (leNum f k) (f k) b1.1 b1.2 b2.1 b2.2)
      clear b1 b2
      go_wp2
      refine ⟨⟨k + 1, by omega, by go_num, ?_⟩, by simp [intOf]; omega⟩
      rw [E.out]; rfl
    · go_wp2
      go_ret2
      obtain rfl : n = k := by omega
      exact ⟨ret_int_bool (HF.out k), rfl⟩
theorem load_no (p : Option Addr) (len cap : Nat) (a n : Int) (w : World) (hl : (len : Int) ≤ 9223372036854775807)
    (h : ¬ (n = 1 ∨ n = 2 ∨ n = 4 ∨ n = 8) ∨ a < 0 ∨ (len : Int) < a ∨ len - a < n) :
    Calls Tryd.prog 19 #[.slice p len cap, .int .i64 a, .int .i64 n] w fun e w' => e = .returned (.tuple #[.int .u64 0, .bool false]) ∧ w = w' := by
  by_cases hn : n = 1 ∨ n = 2 ∨ n = 4 ∨ n = 8
  · have h' : a < 0 ∨ n < 0 ∨ (len : Int) < a ∨ len - a < n := by omega
    clear h
    go_enter Tryd.func19, Tryd.ntmps19
    go_wp2_with (first | (go_at_call 20; refine (sized_yes _ _ hn).mono ?_; rintro e w' ⟨rfl, rfl⟩) | (go_at_call 21; refine (within_no _ _ _ _ _ _ hl h').mono ?_; rintro e w' ⟨rfl, rfl⟩))
    go_ret2
    exact ⟨rfl, rfl⟩
  · clear h
    go_enter Tryd.func19, Tryd.ntmps19
    go_wp2_with (go_at_call 20; refine (sized_no _ _ hn).mono ?_; rintro e w' ⟨rfl, rfl⟩)
    go_ret2
    exact ⟨rfl, rfl⟩
end Go.Proofs.YtjnpfjiphhnoiaaDoor
