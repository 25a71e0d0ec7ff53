/-
  Plain facts on a number's digits: they say the number, they are a number's text. No run of the program stands in this text. Conditions: those that each theorem names.
  The document's own Decimal: a number's digits. Conditions: those that each theorem names.
  The document's own test for a number's text. Conditions: those that each theorem names.
  Texts as bytes: two of the same bytes are one; a part's bytes; each token of a text is fine, no longer than the text, and of bytes. Conditions: those that each theorem names.
-/
import Derived.Test.YtmjmblbaojchcaaDoorPkJ11
import Derived.Laws.BytesArg
import Derived.Deep.Cut
import Derived.Lib.Strings
namespace Go.Proofs.YtmjmblbaojchcaaDoor
open Go.RowKit

/-- A number's digits. -/
def decD : Nat → Nat → List Int
  | 0, n => [48 + ((n % 10 : Nat) : Int)]
  | f + 1, n => if n ≤ 9 then [48 + ((n % 10 : Nat) : Int)] else decD f (n / 10) ++ [48 + ((n % 10 : Nat) : Int)]
def decDigs (n : Nat) : List Int := decD 20 n
theorem decD_fuel : ∀ (f g n : Nat), n < 10 ^ (f + 1) → n < 10 ^ (g + 1) → decD f n = decD g n
  | 0, 0, _, _, _ => rfl
  | 0, g + 1, n, hf, _ => by
    simp only [decD]
    rw [if_pos (by omega)]
  | f + 1, 0, n, _, hg => by
    simp only [decD]
    rw [if_pos (by omega)]
  | f + 1, g + 1, n, hf, hg => by
    simp only [decD]
    by_cases h : n ≤ 9
    · rw [if_pos h, if_pos h]
    · rw [if_neg h, if_neg h, decD_fuel f g (n / 10) (by rw [Nat.pow_succ] at hf; omega) (by rw [Nat.pow_succ] at hg; omega)]
theorem decDigs_small {n : Nat} (h : n ≤ 9) : decDigs n = [48 + (n : Int)] := by
  unfold decDigs
  simp only [decD]
  rw [if_pos h, Nat.mod_eq_of_lt (by omega)]
theorem ten20 : maxU < 10 ^ (19 + 1) := by decide
theorem ten21 : 10 ^ (20 + 1) = 10 * 10 ^ (19 + 1) := by decide
theorem decDigs_19 {n : Nat} (hn : n ≤ maxU) : decDigs n = decD 19 n := by
  unfold decDigs
  have h1 := ten20
  have h2 := ten21
  exact decD_fuel 20 19 n (by omega) (by omega)
theorem decDigs_step {n : Nat} (h : 9 < n) (hn : n ≤ maxU) : decDigs n = decDigs (n / 10) ++ [48 + ((n % 10 : Nat) : Int)] := by
  rw [decDigs_19 (show n / 10 ≤ maxU by omega)]
  unfold decDigs
  rw [show decD 20 n = if n ≤ 9 then [48 + ((n % 10 : Nat) : Int)] else decD 19 (n / 10) ++ [48 + ((n % 10 : Nat) : Int)] from rfl]
  rw [if_neg (by omega)]
theorem decD_digit : ∀ (f n : Nat) (c : Int), c ∈ decD f n → 48 ≤ c ∧ c ≤ 57
  | 0, n, c, h => by
    simp only [decD, List.mem_singleton] at h
    omega
  | f + 1, n, c, h => by
    simp only [decD] at h
    split at h
    · simp only [List.mem_singleton] at h
      omega
    · rw [List.mem_append] at h
      rcases h with h | h
      · exact decD_digit f _ c h
      · simp only [List.mem_singleton] at h
        omega
theorem decD_length : ∀ (f n : Nat), 1 ≤ (decD f n).length ∧ (decD f n).length ≤ f + 1
  | 0, n => by simp [decD]
  | f + 1, n => by
    simp only [decD]
    split
    · simp
    · have := decD_length f (n / 10)
      simp
      omega
theorem decD_value : ∀ (f n : Nat), n < 10 ^ (f + 1) → decF 0 (decD f n) = n
  | 0, n, h => by
    simp only [decD]
    rw [decF_cons, decF_nil]
    unfold dstep
    omega
  | f + 1, n, h => by
    simp only [decD]
    split
    · rw [decF_cons, decF_nil]
      unfold dstep
      omega
    · rw [decF_append, decD_value f (n / 10) (by rw [Nat.pow_succ] at h; omega), decF_cons, decF_nil]
      unfold dstep
      omega
theorem getD_append_left' (a b : List Int) (h : 1 ≤ a.length) : (a ++ b).getD 0 0 = a.getD 0 0 := by
  rw [List.getD, List.getD, List.getElem?_append_left (by omega)]
theorem decD_head : ∀ (f n : Nat), n < 10 ^ (f + 1) → 1 ≤ n → (decD f n).getD 0 0 ≠ 48
  | 0, n, h, h1 => by
    simp only [decD]
    have : (10 : Nat) ^ (0 + 1) = 10 := rfl
    simp
    omega
  | f + 1, n, h, h1 => by
    simp only [decD]
    split
    · simp
      omega
    · rw [getD_append_left' _ _ (decD_length f _).1]
      exact decD_head f (n / 10) (by rw [Nat.pow_succ] at h; omega) (by omega)
theorem decD_zero (f : Nat) : decD f 0 = [48] := by
  cases f <;> rfl
theorem minus_digs (n : Nat) : stA (45 :: decDigs n) (isC 45) 0 = true ∧ digs (45 :: decDigs n) = decDigs n := by
  have h : stA (45 :: decDigs n) (isC 45) 0 = true := rfl
  refine ⟨h, ?_⟩
  unfold digs
  rw [if_pos h]
  rfl
section
variable {n : Nat} (hn : n ≤ maxU)
include hn
theorem decDigs_digit (c : Int) (h : c ∈ decDigs n) : 48 ≤ c ∧ c ≤ 57 := by
  rw [decDigs_19 hn] at h
  exact decD_digit 19 n c h
theorem decDigs_length : 1 ≤ (decDigs n).length ∧ (decDigs n).length ≤ 20 := by
  rw [decDigs_19 hn]
  exact decD_length 19 n
theorem decDigs_value : decF 0 (decDigs n) = n := by
  rw [decDigs_19 hn]
  exact decD_value 19 n (by have := ten20; omega)
theorem decDigs_head (h1 : 1 ≤ n) : (decDigs n).getD 0 0 ≠ 48 := by
  rw [decDigs_19 hn]
  exact decD_head 19 n (by have := ten20; omega) h1
theorem decDigs_get (j : Nat) (hj : j < (decDigs n).length) : isDig ((decDigs n).getD j 0) = true := by
  have h := decDigs_digit hn ((decDigs n).getD j 0) (by rw [List.getD, List.getElem?_eq_getElem hj]; exact List.getElem_mem _)
  exact decide_eq_true h
theorem decDigs_plain : stA (decDigs n) (isC 45) 0 = false := by
  have hl := decDigs_length hn
  rw [stA_of (by omega)]
  have h := of_decide_eq_true (show decide (48 ≤ (decDigs n).getD 0 0 ∧ (decDigs n).getD 0 0 ≤ 57) = true from decDigs_get hn 0 (by omega))
  exact decide_eq_false (by omega)
theorem decDigs_lead (h : 1 < (decDigs n).length) : (decDigs n).getD 0 0 ≠ 48 := by
  rcases Nat.eq_zero_or_pos n with h0 | h0
  · subst h0
    exact absurd h (by decide)
  · exact decDigs_head hn h0
theorem good_plain : goodN (decDigs n) = true := by
  have hd : digs (decDigs n) = decDigs n := by
    unfold digs
    rw [if_neg (by rw [decDigs_plain hn]; decide)]
  have hl := decDigs_length hn
  refine (goodN_iff _).2 ⟨by rw [hd]; exact hl.1, by rw [hd]; exact hl.2, by rw [hd]; exact fun h => decDigs_lead hn h.1 h.2, ?_, by rw [hd]; exact decDigs_get hn⟩
  intro he
  have := decDigs_digit hn 45 (by rw [he]; simp)
  omega
theorem good_minus (h1 : 1 ≤ n) : goodN (45 :: decDigs n) = true := by
  obtain ⟨_, hd⟩ := minus_digs n
  have hl := decDigs_length hn
  refine (goodN_iff _).2 ⟨by rw [hd]; exact hl.1, by rw [hd]; exact hl.2, by rw [hd]; exact fun h => decDigs_lead hn h.1 h.2, ?_, by rw [hd]; exact decDigs_get hn⟩
  intro he
  have h2 : decDigs n = [48] := by injection he
  exact decDigs_head hn h1 (by rw [h2]; rfl)
/-- A number's digits, read as one of so many bytes, without a sign. -/
theorem numV_dec (size : Int) (hs : sizedB size = true) : numV (decDigs n) size false = if (n : Int) < span size then some n else none := by
  have hd : digs (decDigs n) = decDigs n := by
    unfold digs
    rw [if_neg (by rw [decDigs_plain hn]; decide)]
  unfold numV
  rw [hd, decDigs_value hn, decDigs_plain hn, good_plain hn, hs]
  have hf : fitsB (n : Int) false size false = decide ((n : Int) < span size) := by
    unfold fitsB
    rw [if_neg (by decide), Bool.not_false, Bool.true_and]
  rw [hf]
  by_cases h : (n : Int) < span size
  · rw [if_pos ⟨rfl, rfl, hn, decide_eq_true h⟩, if_pos h, if_neg (by decide)]
  · rw [if_neg (fun hh => by have := hh.2.2.2; rw [decide_eq_false h] at this; cases this), if_neg h]
/-- .. with a sign, not below 0. -/
theorem numV_sig (size : Int) (hs : sizedB size = true) : numV (decDigs n) size true = if (n : Int) < span size / 2 then some n else none := by
  have hd : digs (decDigs n) = decDigs n := by
    unfold digs
    rw [if_neg (by rw [decDigs_plain hn]; decide)]
  unfold numV
  rw [hd, decDigs_value hn, decDigs_plain hn, good_plain hn, hs]
  have hf : fitsB (n : Int) false size true = decide ((n : Int) < span size / 2) := by
    unfold fitsB
    rw [if_pos rfl, Bool.false_and, Bool.or_false]
  rw [hf]
  by_cases h : (n : Int) < span size / 2
  · rw [if_pos ⟨rfl, rfl, hn, decide_eq_true h⟩, if_pos h, if_neg (by decide)]
  · rw [if_neg (fun hh => by have := hh.2.2.2; rw [decide_eq_false h] at this; cases this), if_neg h]
/-- .. below 0. -/
theorem numV_neg (h1 : 1 ≤ n) (size : Int) (hs : sizedB size = true) : numV (45 :: decDigs n) size true = if (n : Int) ≤ span size / 2 then some ((18446744073709551616 - n) % 18446744073709551616) else none := by
  obtain ⟨hm, hd⟩ := minus_digs n
  unfold numV
  rw [hd, decDigs_value hn, hm, good_minus hn h1, hs]
  have hf : fitsB (n : Int) true size true = decide ((n : Int) ≤ span size / 2) := by
    unfold fitsB
    rw [if_pos rfl, Bool.true_and, Bool.eq_iff_iff, Bool.or_eq_true, decide_eq_true_iff, decide_eq_true_iff, decide_eq_true_iff]
    omega
  rw [hf]
  by_cases h : (n : Int) ≤ span size / 2
  · rw [if_pos ⟨rfl, rfl, hn, decide_eq_true h⟩, if_pos h, if_pos rfl]
  · rw [if_neg (fun hh => by have := hh.2.2.2; rw [decide_eq_false h] at this; cases this), if_neg h]
end
end Go.Proofs.YtmjmblbaojchcaaDoor
namespace Go.Proofs.YtmjmblbaojchcaaDoor
open Go.ChangeShapes Go.WideShapes Go.ChangeAt Go.RowKit Go.Shelf

theorem bts_append (a b : ByteArray) : bts (a ++ b) = bts a ++ bts b := by simp [bts]
theorem bts_strOf (zs : List Int) (h : ∀ z ∈ zs, 0 ≤ z ∧ z ≤ 255) : bts (strOfNums zs) = zs := by
  unfold bts
  rw [strOfNums_data, List.map_map]
  conv => rhs; rw [← List.map_id zs]
  refine List.map_congr_left fun z hz => ?_
  have := h z hz
  simp only [Function.comp, UInt8.toNat_ofNat', id]
  omega
theorem one_str (W : World) (z : Int) : (convert 22 9 (.slice (some ⟨W.heap.size, 0, none⟩) 1 1)).run Tryd.prog (W.alloc (.cells #[.int .u8 z] 5)) = .ok (.string (strOfNums [z])) (W.alloc (.cells #[.int .u8 z] 5)) := by
  refine run_convert_bytes_arg (P := Tryd.prog) _ 22 5 Tryd.underlying22 Tryd.underlying5 W.heap.size 0 1 1 [z] rfl (fun k hk => ?_) 9 Tryd.underlying9
  obtain rfl : k = 0 := by omega
  rw [cell_of_row _ _ _ _ _ (0, 0) (heap_alloc_new W _)]
  rfl
/-- A string's bytes are these. -/
def StrIs (P : ByteArray → Prop) (w : World) (e : Ending) (w' : World) : Prop := ∃ s, e = .returned (.string s) ∧ P s ∧ Below w.heap.size w w'
set_option maxRecDepth 100000 in
theorem decimal_plain (n : Nat) (w : World) (hn : (n : Int) ≤ 18446744073709551615) :
    Calls Tryd.prog 39 #[.int .u64 n, .bool false] w (StrIs (fun s => bts s = decDigs n) w) := by
  have kc := one_str
  have HN := Lib.hid hn
  go_enter Tryd.func39, Tryd.ntmps39
  go_wp2
  go_loopw [0, 5] (fun m s wr => Below w.heap.size w wr ∧ ∃ (k : Nat) (b : ByteArray), (k : Int) ≤ 18446744073709551615 ∧ m = .int .u64 k ∧ s = .string b ∧ decDigs n = decDigs k ++ bts b) (fun m _ _ => (intOf m).toNat)
  case atStart => exact ⟨Below.refl _ _, n, _, HN.out, rfl, rfl, (List.append_nil _).symm⟩
  case round =>
    obtain ⟨hb, k, b, hk, rfl, rfl, hd⟩ := hrel
    have HB := Lib.hid hb
    have HD := Lib.hid hd
    clear hb hd
    have hbl : b.size ≤ 20 := by
      have h1 := congrArg List.length HD.out
      have h2 := (decDigs_length (n := n) (Int.ofNat_le.1 HN.out)).2
      rw [List.length_append, bts_length] at h1
      omega
    by_cases h9 : (9 : Int) < k
    · have HS := Lib.hid (decDigs_step (n := k) (by omega) (Int.ofNat_le.1 hk))
      have HZ := Lib.hid (bts_strOf [48 + (k : Int) % 10] (by intro z hz; simp only [List.mem_singleton] at hz; omega))
      have hsz : ¬ 9223372036854775807 < (strOfNums [48 + (k : Int) % 10]).size + b.size := by rw [strOfNums_size]; simp; omega
      go_wp2
      go_roundw
      case rel => exact ⟨HB.out.alloc HB.out.size _, k / 10, _, by omega, congrArg (Value.int .u64) (by omega), rfl, by rw [HD.out, HS.out, bts_append, HZ.out, List.append_assoc]; congr 3⟩
      case measure => simp [intOf]; omega
    · have HS := Lib.hid (decDigs_small (n := k) (by omega))
      have HZ := Lib.hid (bts_strOf [48 + (k : Int)] (by intro z hz; simp only [List.mem_singleton] at hz; omega))
      have hsz : ¬ 9223372036854775807 < (strOfNums [48 + (k : Int)]).size + b.size := by rw [strOfNums_size]; simp; omega
      go_wp2
      go_ret
      exact ⟨_, rfl, show bts _ = _ by rw [bts_append, HZ.out, HD.out, HS.out], HB.out.alloc HB.out.size _⟩
set_option maxRecDepth 100000 in
theorem decimal_pos (n : Nat) (w : World) (hn : (n : Int) ≤ 9223372036854775807) :
    Calls Tryd.prog 39 #[.int .u64 n, .bool true] w (StrIs (fun s => bts s = decDigs n) w) := by
  have kc := one_str
  have HN := Lib.hid (show (n : Int) ≤ 18446744073709551615 by omega)
  have t0 : ((n : Int) / 9223372036854775808 == 1) = false := by simp; omega
  go_enter Tryd.func39, Tryd.ntmps39
  go_wp2
  go_loopw [0, 5] (fun m s wr => Below w.heap.size w wr ∧ ∃ (k : Nat) (b : ByteArray), (k : Int) ≤ 18446744073709551615 ∧ m = .int .u64 k ∧ s = .string b ∧ decDigs n = decDigs k ++ bts b) (fun m _ _ => (intOf m).toNat)
  case atStart => exact ⟨Below.refl _ _, n, _, HN.out, rfl, rfl, (List.append_nil _).symm⟩
  case round =>
    obtain ⟨hb, k, b, hk, rfl, rfl, hd⟩ := hrel
    have HB := Lib.hid hb
    have HD := Lib.hid hd
    clear hb hd
    have hbl : b.size ≤ 20 := by
      have h1 := congrArg List.length HD.out
      have h2 := (decDigs_length (n := n) (Int.ofNat_le.1 HN.out)).2
      rw [List.length_append, bts_length] at h1
      omega
    by_cases h9 : (9 : Int) < k
    · have HS := Lib.hid (decDigs_step (n := k) (by omega) (Int.ofNat_le.1 hk))
      have HZ := Lib.hid (bts_strOf [48 + (k : Int) % 10] (by intro z hz; simp only [List.mem_singleton] at hz; omega))
      have hsz : ¬ 9223372036854775807 < (strOfNums [48 + (k : Int) % 10]).size + b.size := by rw [strOfNums_size]; simp; omega
      go_wp2
      go_roundw
      case rel => exact ⟨HB.out.alloc HB.out.size _, k / 10, _, by omega, congrArg (Value.int .u64) (by omega), rfl, by rw [HD.out, HS.out, bts_append, HZ.out, List.append_assoc]; congr 3⟩
      case measure => simp [intOf]; omega
    · have HS := Lib.hid (decDigs_small (n := k) (by omega))
      have HZ := Lib.hid (bts_strOf [48 + (k : Int)] (by intro z hz; simp only [List.mem_singleton] at hz; omega))
      have hsz : ¬ 9223372036854775807 < (strOfNums [48 + (k : Int)]).size + b.size := by rw [strOfNums_size]; simp; omega
      go_wp2
      go_ret
      exact ⟨_, rfl, show bts _ = _ by rw [bts_append, HZ.out, HD.out, HS.out], HB.out.alloc HB.out.size _⟩
theorem decimal_neg (n : Nat) (w : World) (h1 : (9223372036854775808 : Int) ≤ n) (h2 : (n : Int) ≤ 18446744073709551615) :
    Calls Tryd.prog 39 #[.int .u64 n, .bool true] w (StrIs (fun s => bts s = 45 :: decDigs (18446744073709551616 - n)) w) := by
  have t0 : ((n : Int) / 9223372036854775808 == 1) = true := by simp; omega
  have HX := Lib.hid (xor_max n h2)
  have HM := Lib.hid (Nat.mod_eq_of_lt (show 18446744073709551616 - n < 18446744073709551616 by omega))
  have hv : ((18446744073709551616 - n : Nat) : Int) ≤ 18446744073709551615 := by omega
  generalize 18446744073709551616 - n = v at HX HM hv ⊢
  have HV := Lib.hid hv
  go_enter Tryd.func39, Tryd.ntmps39
  go_wp2_with fail
  rw [HX.out, HM.out]
  refine (decimal_plain v w HV.out).mono ?_
  rintro e W1 ⟨s, rfl, hs, hb⟩
  have HB := Lib.hid hb
  have HS := Lib.hid hs
  have hl : s.size ≤ 20 := by
    have h3 := congrArg List.length hs
    have h4 := (decDigs_length (n := v) (Int.ofNat_le.1 hv)).2
    rw [bts_length] at h3
    omega
  clear hb hs
  go_wp2
  go_ret
  exact ⟨_, rfl, (show bts _ = _ by rw [bts_append, show bts s = decDigs v from HS.out]; rfl), HB.out⟩
end Go.Proofs.YtmjmblbaojchcaaDoor
namespace Go.Proofs.YtmjmblbaojchcaaDoor
open Go.ChangeShapes Go.WideShapes Go.ChangeAt Go.RowKit Go.Shelf

theorem goodN_no (zs : List Int) (h : (digs zs).length < 1 ∨ 20 < (digs zs).length ∨ (1 < (digs zs).length ∧ (digs zs).getD 0 0 = 48) ∨ zs = [45, 48] ∨ ∃ j, j < (digs zs).length ∧ isDig ((digs zs).getD j 0) = false) : goodN zs = false := by
  cases hg : goodN zs
  · rfl
  · obtain ⟨a1, a2, a3, a4, a5⟩ := (goodN_iff zs).1 hg
    rcases h with h | h | h | h | ⟨j, h1, h2⟩
    · omega
    · omega
    · exact absurd h a3
    · exact absurd h a4
    · rw [a5 j h1] at h2
      cases h2
theorem goodN_yes (zs : List Int) (h1 : 1 ≤ (digs zs).length) (h2 : (digs zs).length ≤ 20) (h3 : ¬ (1 < (digs zs).length ∧ (digs zs).getD 0 0 = 48)) (h4 : zs ≠ [45, 48]) (h5 : ∀ j, j < (digs zs).length → isDig ((digs zs).getD j 0) = true) : goodN zs = true :=
  (goodN_iff zs).2 ⟨h1, h2, h3, h4, h5⟩
theorem bts_extract (s : ByteArray) : bts (s.extract 1 s.size) = (bts s).drop 1 := by
  unfold bts
  rw [Lib.extract_data, List.take_of_length_le (by simp)]
  simp
theorem extract_size (s : ByteArray) : (s.extract 1 s.size).size = s.size - 1 := by
  rw [← bts_length, bts_extract, List.length_drop, bts_length]
theorem bts_toList (s : ByteArray) (l : List UInt8) : (s.toList == l) = decide (bts s = l.map fun b => (b.toNat : Int)) := by
  rw [ByteArray.toList_eq, Bool.eq_iff_iff, beq_iff_eq, decide_eq_true_iff]
  unfold bts
  constructor
  · intro h; rw [h]
  · intro h
    have hinj : ∀ (a b : List UInt8), a.map (fun b => (b.toNat : Int)) = b.map (fun b => (b.toNat : Int)) → a = b := by
      intro a
      induction a with
      | nil => intro b hb; cases b with
        | nil => rfl
        | cons => cases hb
      | cons x r ih => intro b hb; cases b with
        | nil => cases hb
        | cons y q =>
          simp only [List.map_cons, List.cons.injEq] at hb
          have hxy : x = y := UInt8.toNat_inj.1 (by omega)
          rw [ih q hb.2, hxy]
    exact hinj _ _ h
set_option maxRecDepth 100000 in
theorem rgood_minus (s : ByteArray) (w : World) (hs : s.size ≤ 281474976710656) (h : stA (bts s) (isC 45) 0 = true) :
    Calls Tryd.prog 67 #[.string s] w fun e w' => e = .returned (.bool (goodN (bts s))) ∧ w = w' := by
  have h1 : 1 ≤ s.size := by have := stA_lt h; rw [bts_length] at this; omega
  have H := Lib.hid (of_decide_eq_true (show decide ((bts s).getD 0 0 = 45) = true from stA_p h))
  have HDX := Lib.hid (show digs (bts s) = bts (s.extract 1 s.size) from by unfold digs; rw [if_pos h, bts_extract])
  obtain ⟨r, hr⟩ : ∃ r, goodN (bts s) = r := ⟨_, rfl⟩
  have HR := Lib.hid hr
  rw [hr]
  clear h hr
  go_enter Tryd.func67, Tryd.ntmps67
  go_wp2_with fail
  refine (at_any s _ 0 _ rfl).mono ?_
  rintro e w1 ⟨rfl, rfl⟩
  rw [H.out]
  go_upto_region 4 with (fail)
  obtain ⟨d, hd⟩ : ∃ d, d = s.extract 1 s.size := ⟨_, rfl⟩
  rw [← hd]
  have HD : Hid (digs (bts s) = bts d) := by rw [hd]; exact HDX.out
  have hdl : d.size ≤ 281474976710656 := by rw [hd, extract_size]; omega
  have HMS := Lib.hid (show s.size = d.size + 1 from by rw [hd, extract_size]; omega)
  clear hd HDX
  by_cases c1 : d.size < 1
  · have t1 : decide ((d.size : Int) < 1) = true := by simp; omega
    have HF := Lib.hid (HR.out.symm.trans (goodN_no (bts s) (by rw [HD.out, bts_length]; exact .inl c1)))
    go_wp2
    go_ret
    exact ⟨ret_bool HF.out.symm, rfl⟩
  have t1 : decide ((d.size : Int) < 1) = false := by simp; omega
  have p1 : 0 < d.size := by omega
  by_cases c2 : 20 < d.size
  · have t2 : decide (20 < (d.size : Int)) = true := by simp; omega
    have HF := Lib.hid (HR.out.symm.trans (goodN_no (bts s) (by rw [HD.out, bts_length]; exact .inr (.inl c2))))
    go_wp2
    go_ret
    exact ⟨ret_bool HF.out.symm, rfl⟩
  have t2 : decide (20 < (d.size : Int)) = false := by simp; omega
  have HG0 := Lib.hid (bts_get p1)
  have t6 : (s.toList == [45, 48]) = decide (bts s = [45, 48]) := bts_toList s _
  have H6 := Lib.hid t6
  clear t6
  by_cases c6 : bts s = [45, 48]
  · have HF := Lib.hid (HR.out.symm.trans (goodN_no (bts s) (.inr (.inr (.inr (.inl c6))))))
    have t6 : (s.toList == [45, 48]) = true := by rw [H6.out, decide_eq_true c6]
    have t3 : decide (1 < (d.size : Int)) = false := by
      have h1 := congrArg List.length c6
      have h2 := HMS.out
      rw [bts_length] at h1
      simp at h1 ⊢
      omega
    clear c6
    go_wp2
    go_ret
    exact ⟨ret_bool HF.out.symm, rfl⟩
  have t6 : (s.toList == [45, 48]) = false := by rw [H6.out, decide_eq_false c6]
  have HC6 := Lib.hid c6
  clear c6
  by_cases c3 : 1 < d.size ∧ (bts d).getD 0 0 = 48
  · have HF := Lib.hid (HR.out.symm.trans (goodN_no (bts s) (by rw [HD.out, bts_length]; exact .inr (.inr (.inl c3)))))
    have t3 : decide (1 < (d.size : Int)) = true := by simp; omega
    have c4 := c3.2
    rw [HG0.out] at c4
    have t4 : ((d[0].toNat : Int) == 48) = true := by simp only [beq_iff_eq]; exact c4
    clear c3 c4
    go_wp2
    go_ret
    exact ⟨ret_bool HF.out.symm, rfl⟩
  have HC3 := Lib.hid c3
  have key : ∀ b3 b4 : Bool, decide (1 < (d.size : Int)) = b3 → ((d[0].toNat : Int) == 48) = b4 → (b3 && b4) = false := by
    intro b3 b4 h3 h4
    rw [← h3, ← h4]
    cases hb : decide (1 < (d.size : Int))
    · rfl
    · cases hb4 : ((d[0].toNat : Int) == 48)
      · rfl
      · exfalso
        refine HC3.out ⟨?_, ?_⟩
        · have := of_decide_eq_true hb
          omega
        · rw [HG0.out]
          exact beq_iff_eq.1 hb4
  clear c3
  obtain ⟨b3, t3⟩ : ∃ b, decide (1 < (d.size : Int)) = b := ⟨_, rfl⟩
  obtain ⟨b4, t4⟩ : ∃ b, ((d[0].toNat : Int) == 48) = b := ⟨_, rfl⟩
  have KB := Lib.hid (key b3 b4 t3 t4)
  clear key
  cases b3
  all_goals
    try (rw [Bool.true_and] at KB; have kb := KB.out; subst kb)
    go_wp2
    go_loop [4] (fun i => ∃ k : Nat, k ≤ d.size ∧ i = .int .i64 k ∧ ∀ j, j < k → isDig ((bts d).getD j 0) = true) (fun i => d.size - (intOf i).toNat)
    case atStart => exact ⟨0, Nat.zero_le _, rfl, fun j hj => absurd hj (Nat.not_lt_zero j)⟩
    case round =>
      obtain ⟨k, hk, rfl, hall⟩ := hrel
      have HA := Lib.hid hall
      clear hall
      by_cases hlt : k < d.size
      · have HGK := Lib.hid (bts_get hlt)
        cases hq : isDig ((d[k].toNat : Int))
        · have HQ := Lib.hid hq
          have HF := Lib.hid (HR.out.symm.trans (goodN_no (bts s) (by rw [HD.out, bts_length]; exact .inr (.inr (.inr (.inr ⟨k, hlt, by rw [HGK.out]; exact HQ.out⟩))))))
          clear hq
          go_wp2_with fail
          refine (rdigit_any _ _).mono ?_
          rintro e w2 ⟨rfl, rfl⟩
          rw [HQ.out]
          go_wp2
          go_ret
          exact ⟨ret_bool HF.out.symm, rfl⟩
        · have HQ := Lib.hid hq
          clear hq
          go_wp2_with fail
          refine (rdigit_any _ _).mono ?_
          rintro e w2 ⟨rfl, rfl⟩
          rw [HQ.out]
          go_wp2
          go_round
          case rel => exact ⟨k + 1, by omega, by go_num, fun j hj => by
            rcases Nat.lt_or_ge j k with h | h
            · exact HA.out j h
            · obtain rfl : j = k := by omega
              rw [HGK.out]
              exact HQ.out⟩
          case measure => simp [intOf]; omega
      · have hke : k = d.size := by omega
        have HF := Lib.hid (HR.out.symm.trans (goodN_yes (bts s) (by rw [HD.out, bts_length]; omega) (by rw [HD.out, bts_length]; omega) (by rw [HD.out, bts_length]; exact HC3.out) HC6.out (by rw [HD.out, bts_length]; exact fun j hj => HA.out j (by omega))))
        clear hke
        go_wp2
        go_ret
        exact ⟨ret_bool HF.out.symm, rfl⟩
set_option maxRecDepth 100000 in
theorem rgood_plain (s : ByteArray) (w : World) (hs : s.size ≤ 281474976710656) (h : stA (bts s) (isC 45) 0 = false) :
    Calls Tryd.prog 67 #[.string s] w fun e w' => e = .returned (.bool (goodN (bts s))) ∧ w = w' := by
  have t0 : ((bts s).getD 0 0 == 45) = false := by
    by_cases hi : 0 < s.size
    · rw [stA_of (by rw [bts_length]; exact hi)] at h
      exact h
    · rw [bts_end (by omega)]
      rfl
  have HDX := Lib.hid (show digs (bts s) = bts s from by unfold digs; rw [if_neg (by rw [h]; decide)])
  obtain ⟨r, hr⟩ : ∃ r, goodN (bts s) = r := ⟨_, rfl⟩
  have HR := Lib.hid hr
  rw [hr]
  clear h hr
  go_enter Tryd.func67, Tryd.ntmps67
  go_wp2_with fail
  refine (at_any s _ 0 _ rfl).mono ?_
  rintro e w1 ⟨rfl, rfl⟩
  generalize (bts s).getD 0 0 = z0 at t0 ⊢
  go_upto_region 4 with (fail)
  obtain ⟨d, hd⟩ : ∃ d, d = s := ⟨_, rfl⟩
  have HD : Hid (digs (bts s) = bts d) := by rw [hd]; exact HDX.out
  subst hd
  have hdl := hs
  have HMS : Hid (d.size = d.size) := rfl
  clear HDX
  by_cases c1 : d.size < 1
  · have t1 : decide ((d.size : Int) < 1) = true := by simp; omega
    have HF := Lib.hid (HR.out.symm.trans (goodN_no (bts d) (by rw [HD.out, bts_length]; exact .inl c1)))
    go_wp2
    go_ret
    exact ⟨ret_bool HF.out.symm, rfl⟩
  have t1 : decide ((d.size : Int) < 1) = false := by simp; omega
  have p1 : 0 < d.size := by omega
  by_cases c2 : 20 < d.size
  · have t2 : decide (20 < (d.size : Int)) = true := by simp; omega
    have HF := Lib.hid (HR.out.symm.trans (goodN_no (bts d) (by rw [HD.out, bts_length]; exact .inr (.inl c2))))
    go_wp2
    go_ret
    exact ⟨ret_bool HF.out.symm, rfl⟩
  have t2 : decide (20 < (d.size : Int)) = false := by simp; omega
  have HG0 := Lib.hid (bts_get p1)
  have t6 : (d.toList == [45, 48]) = decide (bts d = [45, 48]) := bts_toList d _
  have H6 := Lib.hid t6
  clear t6
  by_cases c6 : bts d = [45, 48]
  · have HF := Lib.hid (HR.out.symm.trans (goodN_no (bts d) (.inr (.inr (.inr (.inl c6))))))
    have t6 : (d.toList == [45, 48]) = true := by rw [H6.out, decide_eq_true c6]
    exfalso
    have h1 := congrArg (fun l => digs l) c6
    have h2 := congrArg List.length (HD.out.symm.trans h1)
    have h3 := congrArg List.length c6
    rw [h3] at h2
    exact absurd h2 (by decide)
  have t6 : (d.toList == [45, 48]) = false := by rw [H6.out, decide_eq_false c6]
  have HC6 := Lib.hid c6
  clear c6
  by_cases c3 : 1 < d.size ∧ (bts d).getD 0 0 = 48
  · have HF := Lib.hid (HR.out.symm.trans (goodN_no (bts d) (by rw [HD.out, bts_length]; exact .inr (.inr (.inl c3)))))
    have t3 : decide (1 < (d.size : Int)) = true := by simp; omega
    have c4 := c3.2
    rw [HG0.out] at c4
    have t4 : ((d[0].toNat : Int) == 48) = true := by simp only [beq_iff_eq]; exact c4
    clear c3 c4
    go_wp2
    go_ret
    exact ⟨ret_bool HF.out.symm, rfl⟩
  have HC3 := Lib.hid c3
  have key : ∀ b3 b4 : Bool, decide (1 < (d.size : Int)) = b3 → ((d[0].toNat : Int) == 48) = b4 → (b3 && b4) = false := by
    intro b3 b4 h3 h4
    rw [← h3, ← h4]
    cases hb : decide (1 < (d.size : Int))
    · rfl
    · cases hb4 : ((d[0].toNat : Int) == 48)
      · rfl
      · exfalso
        refine HC3.out ⟨?_, ?_⟩
        · have := of_decide_eq_true hb
          omega
        · rw [HG0.out]
          exact beq_iff_eq.1 hb4
  clear c3
  obtain ⟨b3, t3⟩ : ∃ b, decide (1 < (d.size : Int)) = b := ⟨_, rfl⟩
  obtain ⟨b4, t4⟩ : ∃ b, ((d[0].toNat : Int) == 48) = b := ⟨_, rfl⟩
  have KB := Lib.hid (key b3 b4 t3 t4)
  clear key
  cases b3
  all_goals
    try (rw [Bool.true_and] at KB; have kb := KB.out; subst kb)
    go_wp2
    go_loop [4] (fun i => ∃ k : Nat, k ≤ d.size ∧ i = .int .i64 k ∧ ∀ j, j < k → isDig ((bts d).getD j 0) = true) (fun i => d.size - (intOf i).toNat)
    case atStart => exact ⟨0, Nat.zero_le _, rfl, fun j hj => absurd hj (Nat.not_lt_zero j)⟩
    case round =>
      obtain ⟨k, hk, rfl, hall⟩ := hrel
      have HA := Lib.hid hall
      clear hall
      by_cases hlt : k < d.size
      · have HGK := Lib.hid (bts_get hlt)
        cases hq : isDig ((d[k].toNat : Int))
        · have HQ := Lib.hid hq
          have HF := Lib.hid (HR.out.symm.trans (goodN_no (bts d) (by rw [HD.out, bts_length]; exact .inr (.inr (.inr (.inr ⟨k, hlt, by rw [HGK.out]; exact HQ.out⟩))))))
          clear hq
          go_wp2_with fail
          refine (rdigit_any _ _).mono ?_
          rintro e w2 ⟨rfl, rfl⟩
          rw [HQ.out]
          go_wp2
          go_ret
          exact ⟨ret_bool HF.out.symm, rfl⟩
        · have HQ := Lib.hid hq
          clear hq
          go_wp2_with fail
          refine (rdigit_any _ _).mono ?_
          rintro e w2 ⟨rfl, rfl⟩
          rw [HQ.out]
          go_wp2
          go_round
          case rel => exact ⟨k + 1, by omega, by go_num, fun j hj => by
            rcases Nat.lt_or_ge j k with h | h
            · exact HA.out j h
            · obtain rfl : j = k := by omega
              rw [HGK.out]
              exact HQ.out⟩
          case measure => simp [intOf]; omega
      · have hke : k = d.size := by omega
        have HF := Lib.hid (HR.out.symm.trans (goodN_yes (bts d) (by rw [HD.out, bts_length]; omega) (by rw [HD.out, bts_length]; omega) (by rw [HD.out, bts_length]; exact HC3.out) HC6.out (by rw [HD.out, bts_length]; exact fun j hj => HA.out j (by omega))))
        clear hke
        go_wp2
        go_ret
        exact ⟨ret_bool HF.out.symm, rfl⟩
theorem rgood_any (s : ByteArray) (w : World) (hs : s.size ≤ 281474976710656) :
    Calls Tryd.prog 67 #[.string s] w fun e w' => e = .returned (.bool (goodN (bts s))) ∧ w = w' := by
  cases h : stA (bts s) (isC 45) 0
  · exact rgood_plain s w hs h
  · exact rgood_minus s w hs h
end Go.Proofs.YtmjmblbaojchcaaDoor
namespace Go.Proofs.YtmjmblbaojchcaaDoor
open Go.ChangeShapes Go.WideShapes Go.ChangeAt Go.RowKit Go.Shelf

theorem full_length (t : Tok) : t.text.length + (if t.kind = 3 then 2 else 0) = (full t).length := by
  unfold full
  split <;> simp
theorem text_bd {ok : List Int → Bool} {sg : Int → Bool} {s : ByteArray} {i e : Nat} {t : Tok} (_ : Fine ok sg t) (h : sub (bts s) i e = full t) : ∀ z ∈ t.text, 0 ≤ z ∧ z ≤ 255 := by
  intro z hz
  have h1 : z ∈ full t := by
    unfold full
    split
    · exact List.mem_cons_of_mem _ (List.mem_append_left _ hz)
    · exact hz
  rw [← h] at h1
  have h2 : z ∈ bts s := List.mem_of_mem_drop (List.mem_of_mem_take h1)
  obtain ⟨j, hj, rfl⟩ := List.mem_iff_getElem.1 h2
  have := bts_bd s j
  rw [List.getD, List.getElem?_eq_getElem hj] at this
  exact this
theorem bts_inj {a b : ByteArray} (h : bts a = bts b) : a = b := by
  have h1 := bts_toList a b.data.toList
  have h2 : a.toList = b.data.toList := by
    have : (a.toList == b.data.toList) = true := by rw [h1]; exact decide_eq_true h
    exact beq_iff_eq.1 this
  rw [ByteArray.toList_eq] at h2
  exact bytes_inj h2
theorem bts_part (s : ByteArray) (i j : Nat) : bts (s.extract i j) = sub (bts s) i j := by
  unfold bts sub
  rw [Lib.extract_data]
  simp
theorem chain_all {s : ByteArray} {sg : Int → Bool} : ∀ (l : List Tok) (i : Nat), i ≤ (bts s).length → Left okU sg (bts s) i l → ∀ t ∈ l, Fine okU sg t ∧ (full t).length ≤ s.size ∧ ∀ z ∈ t.text, 0 ≤ z ∧ z ≤ 255
  | [], _, _, _, t, h => by cases h
  | a :: r, i, hi, hl, t, h => by
    obtain ⟨f1, _, f3, f4, _, f6⟩ := left_step hi hl
    rcases List.mem_cons.1 h with rfl | h
    · refine ⟨f1, ?_, text_bd f1 f4⟩
      rw [bts_length] at f3
      omega
    · exact chain_all r _ f3 f6 t h
end Go.Proofs.YtmjmblbaojchcaaDoor
