/-
  The document's own Decimal: a number's digits. Conditions: those that each theorem names.
-/
import Derived.Test.YtmjmblbaojchcaaDoorRefLex
import Derived.Test.YtmjmblbaojchcaaDoorDecPlain
import Derived.Laws.BytesArg
namespace Go.Proofs.YtmjmblbaojchcaaDoor
open Go.ChangeShapes Go.WideShapes Go.ChangeAt Go.RowKit Go.Shelf

theorem bts_append (a b : ByteArray) : bts (a ++ b) = bts a ++ bts b := by simp [bts]
theorem bts_strOf (zs : List Int) (h : ∀ z ∈ zs, 0 ≤ z ∧ z ≤ 255) : bts (strOfNums zs) = zs := by
  unfold bts
  rw [strOfNums_data, List.map_map]
  conv => rhs; rw [← List.map_id zs]
  refine List.map_congr_left fun z hz => ?_
  have := h z hz
  simp only [Function.comp, UInt8.toNat_ofNat', id]
  omega
theorem one_str (W : World) (z : Int) : (convert 22 9 (.slice (some ⟨W.heap.size, 0, none⟩) 1 1)).run Tryd.prog (W.alloc (.cells #[.int .u8 z] 5)) = .ok (.string (strOfNums [z])) (W.alloc (.cells #[.int .u8 z] 5)) := by
  refine run_convert_bytes_arg (P := Tryd.prog) _ 22 5 Tryd.underlying22 Tryd.underlying5 W.heap.size 0 1 1 [z] rfl (fun k hk => ?_) 9 Tryd.underlying9
  obtain rfl : k = 0 := by omega
  rw [cell_of_row _ _ _ _ _ (0, 0) (heap_alloc_new W _)]
  rfl
/-- A string's bytes are these. -/
def StrIs (P : ByteArray → Prop) (w : World) (e : Ending) (w' : World) : Prop := ∃ s, e = .returned (.string s) ∧ P s ∧ Below w.heap.size w w'
set_option maxRecDepth 100000 in
theorem decimal_plain (n : Nat) (w : World) (hn : (n : Int) ≤ 18446744073709551615) :
    Calls Tryd.prog 39 #[.int .u64 n, .bool false] w (StrIs (fun s => bts s = decDigs n) w) := by
  have kc := one_str
  have HN := Lib.hid hn
  go_enter Tryd.func39, Tryd.ntmps39
  go_wp2
  go_loopw [0, 5] (fun m s wr => Below w.heap.size w wr ∧ ∃ (k : Nat) (b : ByteArray), (k : Int) ≤ 18446744073709551615 ∧ m = .int .u64 k ∧ s = .string b ∧ decDigs n = decDigs k ++ bts b) (fun m _ _ => (intOf m).toNat)
  case atStart => exact ⟨Below.refl _ _, n, _, HN.out, rfl, rfl, (List.append_nil _).symm⟩
  case round =>
    obtain ⟨hb, k, b, hk, rfl, rfl, hd⟩ := hrel
    have HB := Lib.hid hb
    have HD := Lib.hid hd
    clear hb hd
    have hbl : b.size ≤ 20 := by
      have h1 := congrArg List.length HD.out
      have h2 := (decDigs_length (n := n) (Int.ofNat_le.1 HN.out)).2
      rw [List.length_append, bts_length] at h1
      omega
    by_cases h9 : (9 : Int) < k
    · have HS := Lib.hid (decDigs_step (n := k) (by omega) (Int.ofNat_le.1 hk))
      have HZ := Lib.hid (bts_strOf [48 + (k : Int) % 10] (by intro z hz; simp only [List.mem_singleton] at hz; omega))
      have hsz : ¬ 9223372036854775807 < (strOfNums [48 + (k : Int) % 10]).size + b.size := by rw [strOfNums_size]; simp; omega
      go_wp2
      go_roundw
      case rel => exact ⟨HB.out.alloc HB.out.size _, k / 10, _, by omega, congrArg (Value.int .u64) (by omega), rfl, by rw [HD.out, HS.out, bts_append, HZ.out, List.append_assoc]; congr 3⟩
      case measure => simp [intOf]; omega
    · have HS := Lib.hid (decDigs_small (n := k) (by omega))
      have HZ := Lib.hid (bts_strOf [48 + (k : Int)] (by intro z hz; simp only [List.mem_singleton] at hz; omega))
      have hsz : ¬ 9223372036854775807 < (strOfNums [48 + (k : Int)]).size + b.size := by rw [strOfNums_size]; simp; omega
      go_wp2
      go_ret
      exact ⟨_, rfl, show bts _ = _ by rw [bts_append, HZ.out, HD.out, HS.out], HB.out.alloc HB.out.size _⟩
set_option maxRecDepth 100000 in
theorem decimal_pos (n : Nat) (w : World) (hn : (n : Int) ≤ 9223372036854775807) :
    Calls Tryd.prog 39 #[.int .u64 n, .bool true] w (StrIs (fun s => bts s = decDigs n) w) := by
  have kc := one_str
  have HN := Lib.hid (show (n : Int) ≤ 18446744073709551615 by omega)
  have t0 : ((n : Int) / 9223372036854775808 == 1) = false := by simp; omega
  go_enter Tryd.func39, Tryd.ntmps39
  go_wp2
  go_loopw [0, 5] (fun m s wr => Below w.heap.size w wr ∧ ∃ (k : Nat) (b : ByteArray), (k : Int) ≤ 18446744073709551615 ∧ m = .int .u64 k ∧ s = .string b ∧ decDigs n = decDigs k ++ bts b) (fun m _ _ => (intOf m).toNat)
  case atStart => exact ⟨Below.refl _ _, n, _, HN.out, rfl, rfl, (List.append_nil _).symm⟩
  case round =>
    obtain ⟨hb, k, b, hk, rfl, rfl, hd⟩ := hrel
    have HB := Lib.hid hb
    have HD := Lib.hid hd
    clear hb hd
    have hbl : b.size ≤ 20 := by
      have h1 := congrArg List.length HD.out
      have h2 := (decDigs_length (n := n) (Int.ofNat_le.1 HN.out)).2
      rw [List.length_append, bts_length] at h1
      omega
    by_cases h9 : (9 : Int) < k
    · have HS := Lib.hid (decDigs_step (n := k) (by omega) (Int.ofNat_le.1 hk))
      have HZ := Lib.hid (bts_strOf [48 + (k : Int) % 10] (by intro z hz; simp only [List.mem_singleton] at hz; omega))
      have hsz : ¬ 9223372036854775807 < (strOfNums [48 + (k : Int) % 10]).size + b.size := by rw [strOfNums_size]; simp; omega
      go_wp2
      go_roundw
      case rel => exact ⟨HB.out.alloc HB.out.size _, k / 10, _, by omega, congrArg (Value.int .u64) (by omega), rfl, by rw [HD.out, HS.out, bts_append, HZ.out, List.append_assoc]; congr 3⟩
      case measure => simp [intOf]; omega
    · have HS := Lib.hid (decDigs_small (n := k) (by omega))
      have HZ := Lib.hid (bts_strOf [48 + (k : Int)] (by intro z hz; simp only [List.mem_singleton] at hz; omega))
      have hsz : ¬ 9223372036854775807 < (strOfNums [48 + (k : Int)]).size + b.size := by rw [strOfNums_size]; simp; omega
      go_wp2
      go_ret
      exact ⟨_, rfl, show bts _ = _ by rw [bts_append, HZ.out, HD.out, HS.out], HB.out.alloc HB.out.size _⟩
theorem decimal_neg (n : Nat) (w : World) (h1 : (9223372036854775808 : Int) ≤ n) (h2 : (n : Int) ≤ 18446744073709551615) :
    Calls Tryd.prog 39 #[.int .u64 n, .bool true] w (StrIs (fun s => bts s = 45 :: decDigs (18446744073709551616 - n)) w) := by
  have t0 : ((n : Int) / 9223372036854775808 == 1) = true := by simp; omega
  have HX := Lib.hid (xor_max n h2)
  have HM := Lib.hid (Nat.mod_eq_of_lt (show 18446744073709551616 - n < 18446744073709551616 by omega))
  have hv : ((18446744073709551616 - n : Nat) : Int) ≤ 18446744073709551615 := by omega
  generalize 18446744073709551616 - n = v at HX HM hv ⊢
  have HV := Lib.hid hv
  go_enter Tryd.func39, Tryd.ntmps39
  go_wp2_with fail
  rw [HX.out, HM.out]
  refine (decimal_plain v w HV.out).mono ?_
  rintro e W1 ⟨s, rfl, hs, hb⟩
  have HB := Lib.hid hb
  have HS := Lib.hid hs
  have hl : s.size ≤ 20 := by
    have h3 := congrArg List.length hs
    have h4 := (decDigs_length (n := v) (Int.ofNat_le.1 hv)).2
    rw [bts_length] at h3
    omega
  clear hb hs
  go_wp2
  go_ret
  exact ⟨_, rfl, (show bts _ = _ by rw [bts_append, show bts s = decDigs v from HS.out]; rfl), HB.out⟩
end Go.Proofs.YtmjmblbaojchcaaDoor
