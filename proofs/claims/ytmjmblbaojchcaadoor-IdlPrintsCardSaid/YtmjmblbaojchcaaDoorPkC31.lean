/-
  Plain facts on a number's digits: they say the number, they are a number's text. No run of the program stands in this text. Conditions: those that each theorem names.
  The document's own Decimal: a number's digits. Conditions: those that each theorem names.
-/
import Derived.Test.YtmjmblbaojchcaaDoorPkC28
import Derived.Test.YtmjmblbaojchcaaDoorPkC30
import Derived.Laws.BytesArg
namespace Go.Proofs.YtmjmblbaojchcaaDoor
open Go.RowKit

/-- A number's digits. -/
def decD : Nat → Nat → List Int
  | 0, n => [48 + ((n % 10 : Nat) : Int)]
  | f + 1, n => if n ≤ 9 then [48 + ((n % 10 : Nat) : Int)] else decD f (n / 10) ++ [48 + ((n % 10 : Nat) : Int)]
def decDigs (n : Nat) : List Int := decD 20 n
theorem decD_fuel : ∀ (f g n : Nat), n < 10 ^ (f + 1) → n < 10 ^ (g + 1) → decD f n = decD g n
  | 0, 0, _, _, _ => rfl
  | 0, g + 1, n, hf, _ => by
    simp only [decD]
    rw [if_pos (by omega)]
  | f + 1, 0, n, _, hg => by
    simp only [decD]
    rw [if_pos (by omega)]
  | f + 1, g + 1, n, hf, hg => by
    simp only [decD]
    by_cases h : n ≤ 9
    · rw [if_pos h, if_pos h]
    · rw [if_neg h, if_neg h, decD_fuel f g (n / 10) (by rw [Nat.pow_succ] at hf; omega) (by rw [Nat.pow_succ] at hg; omega)]
theorem decDigs_small {n : Nat} (h : n ≤ 9) : decDigs n = [48 + (n : Int)] := by
  unfold decDigs
  simp only [decD]
  rw [if_pos h, Nat.mod_eq_of_lt (by omega)]
theorem ten20 : maxU < 10 ^ (19 + 1) := by decide
theorem ten21 : 10 ^ (20 + 1) = 10 * 10 ^ (19 + 1) := by decide
theorem decDigs_19 {n : Nat} (hn : n ≤ maxU) : decDigs n = decD 19 n := by
  unfold decDigs
  have h1 := ten20
  have h2 := ten21
  exact decD_fuel 20 19 n (by omega) (by omega)
theorem decDigs_step {n : Nat} (h : 9 < n) (hn : n ≤ maxU) : decDigs n = decDigs (n / 10) ++ [48 + ((n % 10 : Nat) : Int)] := by
  rw [decDigs_19 (show n / 10 ≤ maxU by omega)]
  unfold decDigs
  rw [show decD 20 n = if n ≤ 9 then [48 + ((n % 10 : Nat) : Int)] else decD 19 (n / 10) ++ [48 + ((n % 10 : Nat) : Int)] from rfl]
  rw [if_neg (by omega)]
theorem decD_digit : ∀ (f n : Nat) (c : Int), c ∈ decD f n → 48 ≤ c ∧ c ≤ 57
  | 0, n, c, h => by
    simp only [decD, List.mem_singleton] at h
    omega
  | f + 1, n, c, h => by
    simp only [decD] at h
    split at h
    · simp only [List.mem_singleton] at h
      omega
    · rw [List.mem_append] at h
      rcases h with h | h
      · exact decD_digit f _ c h
      · simp only [List.mem_singleton] at h
        omega
theorem decD_length : ∀ (f n : Nat), 1 ≤ (decD f n).length ∧ (decD f n).length ≤ f + 1
  | 0, n => by simp [decD]
  | f + 1, n => by
    simp only [decD]
    split
    · simp
    · have := decD_length f (n / 10)
      simp
      omega
theorem decD_value : ∀ (f n : Nat), n < 10 ^ (f + 1) → decF 0 (decD f n) = n
  | 0, n, h => by
    simp only [decD]
    rw [decF_cons, decF_nil]
    unfold dstep
    omega
  | f + 1, n, h => by
    simp only [decD]
    split
    · rw [decF_cons, decF_nil]
      unfold dstep
      omega
    · rw [decF_append, decD_value f (n / 10) (by rw [Nat.pow_succ] at h; omega), decF_cons, decF_nil]
      unfold dstep
      omega
theorem getD_append_left' (a b : List Int) (h : 1 ≤ a.length) : (a ++ b).getD 0 0 = a.getD 0 0 := by
  rw [List.getD, List.getD, List.getElem?_append_left (by omega)]
theorem decD_head : ∀ (f n : Nat), n < 10 ^ (f + 1) → 1 ≤ n → (decD f n).getD 0 0 ≠ 48
  | 0, n, h, h1 => by
    simp only [decD]
    have : (10 : Nat) ^ (0 + 1) = 10 := rfl
    simp
    omega
  | f + 1, n, h, h1 => by
    simp only [decD]
    split
    · simp
      omega
    · rw [getD_append_left' _ _ (decD_length f _).1]
      exact decD_head f (n / 10) (by rw [Nat.pow_succ] at h; omega) (by omega)
theorem decD_zero (f : Nat) : decD f 0 = [48] := by
  cases f <;> rfl
theorem minus_digs (n : Nat) : stA (45 :: decDigs n) (isC 45) 0 = true ∧ digs (45 :: decDigs n) = decDigs n := by
  have h : stA (45 :: decDigs n) (isC 45) 0 = true := rfl
  refine ⟨h, ?_⟩
  unfold digs
  rw [if_pos h]
  rfl
section
variable {n : Nat} (hn : n ≤ maxU)
include hn
theorem decDigs_digit (c : Int) (h : c ∈ decDigs n) : 48 ≤ c ∧ c ≤ 57 := by
  rw [decDigs_19 hn] at h
  exact decD_digit 19 n c h
theorem decDigs_length : 1 ≤ (decDigs n).length ∧ (decDigs n).length ≤ 20 := by
  rw [decDigs_19 hn]
  exact decD_length 19 n
theorem decDigs_value : decF 0 (decDigs n) = n := by
  rw [decDigs_19 hn]
  exact decD_value 19 n (by have := ten20; omega)
theorem decDigs_head (h1 : 1 ≤ n) : (decDigs n).getD 0 0 ≠ 48 := by
  rw [decDigs_19 hn]
  exact decD_head 19 n (by have := ten20; omega) h1
theorem decDigs_get (j : Nat) (hj : j < (decDigs n).length) : isDig ((decDigs n).getD j 0) = true := by
  have h := decDigs_digit hn ((decDigs n).getD j 0) (by rw [List.getD, List.getElem?_eq_getElem hj]; exact List.getElem_mem _)
  exact decide_eq_true h
theorem decDigs_plain : stA (decDigs n) (isC 45) 0 = false := by
  have hl := decDigs_length hn
  rw [stA_of (by omega)]
  have h := of_decide_eq_true (show decide (48 ≤ (decDigs n).getD 0 0 ∧ (decDigs n).getD 0 0 ≤ 57) = true from decDigs_get hn 0 (by omega))
  exact decide_eq_false (by omega)
theorem decDigs_lead (h : 1 < (decDigs n).length) : (decDigs n).getD 0 0 ≠ 48 := by
  rcases Nat.eq_zero_or_pos n with h0 | h0
  · subst h0
    exact absurd h (by decide)
  · exact decDigs_head hn h0
theorem good_plain : goodN (decDigs n) = true := by
  have hd : digs (decDigs n) = decDigs n := by
    unfold digs
    rw [if_neg (by rw [decDigs_plain hn]; decide)]
  have hl := decDigs_length hn
  refine (goodN_iff _).2 ⟨by rw [hd]; exact hl.1, by rw [hd]; exact hl.2, by rw [hd]; exact fun h => decDigs_lead hn h.1 h.2, ?_, by rw [hd]; exact decDigs_get hn⟩
  intro he
  have := decDigs_digit hn 45 (by rw [he]; simp)
  omega
theorem good_minus (h1 : 1 ≤ n) : goodN (45 :: decDigs n) = true := by
  obtain ⟨_, hd⟩ := minus_digs n
  have hl := decDigs_length hn
  refine (goodN_iff _).2 ⟨by rw [hd]; exact hl.1, by rw [hd]; exact hl.2, by rw [hd]; exact fun h => decDigs_lead hn h.1 h.2, ?_, by rw [hd]; exact decDigs_get hn⟩
  intro he
  have h2 : decDigs n = [48] := by injection he
  exact decDigs_head hn h1 (by rw [h2]; rfl)
/-- A number's digits, read as one of so many bytes, without a sign. -/
theorem numV_dec (size : Int) (hs : sizedB size = true) : numV (decDigs n) size false = if (n : Int) < span size then some n else none := by
  have hd : digs (decDigs n) = decDigs n := by
    unfold digs
    rw [if_neg (by rw [decDigs_plain hn]; decide)]
  unfold numV
  rw [hd, decDigs_value hn, decDigs_plain hn, good_plain hn, hs]
  have hf : fitsB (n : Int) false size false = decide ((n : Int) < span size) := by
    unfold fitsB
    rw [if_neg (by decide), Bool.not_false, Bool.true_and]
  rw [hf]
  by_cases h : (n : Int) < span size
  · rw [if_pos ⟨rfl, rfl, hn, decide_eq_true h⟩, if_pos h, if_neg (by decide)]
  · rw [if_neg (fun hh => by have := hh.2.2.2; rw [decide_eq_false h] at this; cases this), if_neg h]
/-- .. with a sign, not below 0. -/
theorem numV_sig (size : Int) (hs : sizedB size = true) : numV (decDigs n) size true = if (n : Int) < span size / 2 then some n else none := by
  have hd : digs (decDigs n) = decDigs n := by
    unfold digs
    rw [if_neg (by rw [decDigs_plain hn]; decide)]
  unfold numV
  rw [hd, decDigs_value hn, decDigs_plain hn, good_plain hn, hs]
  have hf : fitsB (n : Int) false size true = decide ((n : Int) < span size / 2) := by
    unfold fitsB
    rw [if_pos rfl, Bool.false_and, Bool.or_false]
  rw [hf]
  by_cases h : (n : Int) < span size / 2
  · rw [if_pos ⟨rfl, rfl, hn, decide_eq_true h⟩, if_pos h, if_neg (by decide)]
  · rw [if_neg (fun hh => by have := hh.2.2.2; rw [decide_eq_false h] at this; cases this), if_neg h]
/-- .. below 0. -/
theorem numV_neg (h1 : 1 ≤ n) (size : Int) (hs : sizedB size = true) : numV (45 :: decDigs n) size true = if (n : Int) ≤ span size / 2 then some ((18446744073709551616 - n) % 18446744073709551616) else none := by
  obtain ⟨hm, hd⟩ := minus_digs n
  unfold numV
  rw [hd, decDigs_value hn, hm, good_minus hn h1, hs]
  have hf : fitsB (n : Int) true size true = decide ((n : Int) ≤ span size / 2) := by
    unfold fitsB
    rw [if_pos rfl, Bool.true_and, Bool.eq_iff_iff, Bool.or_eq_true, decide_eq_true_iff, decide_eq_true_iff, decide_eq_true_iff]
    omega
  rw [hf]
  by_cases h : (n : Int) ≤ span size / 2
  · rw [if_pos ⟨rfl, rfl, hn, decide_eq_true h⟩, if_pos h, if_pos rfl]
  · rw [if_neg (fun hh => by have := hh.2.2.2; rw [decide_eq_false h] at this; cases this), if_neg h]
end
end Go.Proofs.YtmjmblbaojchcaaDoor
namespace Go.Proofs.YtmjmblbaojchcaaDoor
open Go.ChangeShapes Go.WideShapes Go.ChangeAt Go.RowKit Go.Shelf

theorem bts_append (a b : ByteArray) : bts (a ++ b) = bts a ++ bts b := by simp [bts]
theorem bts_strOf (zs : List Int) (h : ∀ z ∈ zs, 0 ≤ z ∧ z ≤ 255) : bts (strOfNums zs) = zs := by
  unfold bts
  rw [strOfNums_data, List.map_map]
  conv => rhs; rw [← List.map_id zs]
  refine List.map_congr_left fun z hz => ?_
  have := h z hz
  simp only [Function.comp, UInt8.toNat_ofNat', id]
  omega
theorem one_str (W : World) (z : Int) : (convert 22 9 (.slice (some ⟨W.heap.size, 0, none⟩) 1 1)).run Tryd.prog (W.alloc (.cells #[.int .u8 z] 5)) = .ok (.string (strOfNums [z])) (W.alloc (.cells #[.int .u8 z] 5)) := by
  refine run_convert_bytes_arg (P := Tryd.prog) _ 22 5 Tryd.underlying22 Tryd.underlying5 W.heap.size 0 1 1 [z] rfl (fun k hk => ?_) 9 Tryd.underlying9
  obtain rfl : k = 0 := by omega
  rw [cell_of_row _ _ _ _ _ (0, 0) (heap_alloc_new W _)]
  rfl
/-- A string's bytes are these. -/
def StrIs (P : ByteArray → Prop) (w : World) (e : Ending) (w' : World) : Prop := ∃ s, e = .returned (.string s) ∧ P s ∧ Below w.heap.size w w'
set_option maxRecDepth 100000 in
theorem decimal_plain (n : Nat) (w : World) (hn : (n : Int) ≤ 18446744073709551615) :
    Calls Tryd.prog 39 #[.int .u64 n, .bool false] w (StrIs (fun s => bts s = decDigs n) w) := by
  have kc := one_str
  have HN := Lib.hid hn
  go_enter Tryd.func39, Tryd.ntmps39
  go_wp2
  go_loopw [0, 5] (fun m s wr => Below w.heap.size w wr ∧ ∃ (k : Nat) (b : ByteArray), (k : Int) ≤ 18446744073709551615 ∧ m = .int .u64 k ∧ s = .string b ∧ decDigs n = decDigs k ++ bts b) (fun m _ _ => (intOf m).toNat)
  case atStart => exact ⟨Below.refl _ _, n, _, HN.out, rfl, rfl, (List.append_nil _).symm⟩
  case round =>
    obtain ⟨hb, k, b, hk, rfl, rfl, hd⟩ := hrel
    have HB := Lib.hid hb
    have HD := Lib.hid hd
    clear hb hd
    have hbl : b.size ≤ 20 := by
      have h1 := congrArg List.length HD.out
      have h2 := (decDigs_length (n := n) (Int.ofNat_le.1 HN.out)).2
      rw [List.length_append, bts_length] at h1
      omega
    by_cases h9 : (9 : Int) < k
    · have HS := Lib.hid (decDigs_step (n := k) (by omega) (Int.ofNat_le.1 hk))
      have HZ := Lib.hid (bts_strOf [48 + (k : Int) % 10] (by intro z hz; simp only [List.mem_singleton] at hz; omega))
      have hsz : ¬ 9223372036854775807 < (strOfNums [48 + (k : Int) % 10]).size + b.size := by rw [strOfNums_size]; simp; omega
      go_wp2
      go_roundw
      case rel => exact ⟨HB.out.alloc HB.out.size _, k / 10, _, by omega, congrArg (Value.int .u64) (by omega), rfl, by rw [HD.out, HS.out, bts_append, HZ.out, List.append_assoc]; congr 3⟩
      case measure => simp [intOf]; omega
    · have HS := Lib.hid (decDigs_small (n := k) (by omega))
      have HZ := Lib.hid (bts_strOf [48 + (k : Int)] (by intro z hz; simp only [List.mem_singleton] at hz; omega))
      have hsz : ¬ 9223372036854775807 < (strOfNums [48 + (k : Int)]).size + b.size := by rw [strOfNums_size]; simp; omega
      go_wp2
      go_ret
      exact ⟨_, rfl, show bts _ = _ by rw [bts_append, HZ.out, HD.out, HS.out], HB.out.alloc HB.out.size _⟩
set_option maxRecDepth 100000 in
theorem decimal_pos (n : Nat) (w : World) (hn : (n : Int) ≤ 9223372036854775807) :
    Calls Tryd.prog 39 #[.int .u64 n, .bool true] w (StrIs (fun s => bts s = decDigs n) w) := by
  have kc := one_str
  have HN := Lib.hid (show (n : Int) ≤ 18446744073709551615 by omega)
  have t0 : ((n : Int) / 9223372036854775808 == 1) = false := by simp; omega
  go_enter Tryd.func39, Tryd.ntmps39
  go_wp2
  go_loopw [0, 5] (fun m s wr => Below w.heap.size w wr ∧ ∃ (k : Nat) (b : ByteArray), (k : Int) ≤ 18446744073709551615 ∧ m = .int .u64 k ∧ s = .string b ∧ decDigs n = decDigs k ++ bts b) (fun m _ _ => (intOf m).toNat)
  case atStart => exact ⟨Below.refl _ _, n, _, HN.out, rfl, rfl, (List.append_nil _).symm⟩
  case round =>
    obtain ⟨hb, k, b, hk, rfl, rfl, hd⟩ := hrel
    have HB := Lib.hid hb
    have HD := Lib.hid hd
    clear hb hd
    have hbl : b.size ≤ 20 := by
      have h1 := congrArg List.length HD.out
      have h2 := (decDigs_length (n := n) (Int.ofNat_le.1 HN.out)).2
      rw [List.length_append, bts_length] at h1
      omega
    by_cases h9 : (9 : Int) < k
    · have HS := Lib.hid (decDigs_step (n := k) (by omega) (Int.ofNat_le.1 hk))
      have HZ := Lib.hid (bts_strOf [48 + (k : Int) % 10] (by intro z hz; simp only [List.mem_singleton] at hz; omega))
      have hsz : ¬ 9223372036854775807 < (strOfNums [48 + (k : Int) % 10]).size + b.size := by rw [strOfNums_size]; simp; omega
      go_wp2
      go_roundw
      case rel => exact ⟨HB.out.alloc HB.out.size _, k / 10, _, by omega, congrArg (Value.int .u64) (by omega), rfl, by rw [HD.out, HS.out, bts_append, HZ.out, List.append_assoc]; congr 3⟩
      case measure => simp [intOf]; omega
    · have HS := Lib.hid (decDigs_small (n := k) (by omega))
      have HZ := Lib.hid (bts_strOf [48 + (k : Int)] (by intro z hz; simp only [List.mem_singleton] at hz; omega))
      have hsz : ¬ 9223372036854775807 < (strOfNums [48 + (k : Int)]).size + b.size := by rw [strOfNums_size]; simp; omega
      go_wp2
      go_ret
      exact ⟨_, rfl, show bts _ = _ by rw [bts_append, HZ.out, HD.out, HS.out], HB.out.alloc HB.out.size _⟩
theorem decimal_neg (n : Nat) (w : World) (h1 : (9223372036854775808 : Int) ≤ n) (h2 : (n : Int) ≤ 18446744073709551615) :
    Calls Tryd.prog 39 #[.int .u64 n, .bool true] w (StrIs (fun s => bts s = 45 :: decDigs (18446744073709551616 - n)) w) := by
  have t0 : ((n : Int) / 9223372036854775808 == 1) = true := by simp; omega
  have HX := Lib.hid (xor_max n h2)
  have HM := Lib.hid (Nat.mod_eq_of_lt (show 18446744073709551616 - n < 18446744073709551616 by omega))
  have hv : ((18446744073709551616 - n : Nat) : Int) ≤ 18446744073709551615 := by omega
  generalize 18446744073709551616 - n = v at HX HM hv ⊢
  have HV := Lib.hid hv
  go_enter Tryd.func39, Tryd.ntmps39
  go_wp2_with fail
  rw [HX.out, HM.out]
  refine (decimal_plain v w HV.out).mono ?_
  rintro e W1 ⟨s, rfl, hs, hb⟩
  have HB := Lib.hid hb
  have HS := Lib.hid hs
  have hl : s.size ≤ 20 := by
    have h3 := congrArg List.length hs
    have h4 := (decDigs_length (n := v) (Int.ofNat_le.1 hv)).2
    rw [bts_length] at h3
    omega
  clear hb hs
  go_wp2
  go_ret
  exact ⟨_, rfl, (show bts _ = _ by rw [bts_append, show bts s = decDigs v from HS.out]; rfl), HB.out⟩
end Go.Proofs.YtmjmblbaojchcaaDoor
