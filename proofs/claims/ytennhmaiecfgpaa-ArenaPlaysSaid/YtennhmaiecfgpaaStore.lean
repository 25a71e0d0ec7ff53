/-
  What wire.Store and the document's own Num and Put do, each by a walk of its text: a number's bytes, the lowest first, at a place of a row of the call's own. Conditions: those that each theorem names.
-/
import Derived.Test.YtennhmaiecfgpaaApp
import Derived.Test.YtennhmaiecfgpaaWire
namespace Go.Proofs.Ytennhmaiecfgpaa
open Go.ChangeShapes Go.WideShapes Go.ChangeAt Go.RowKit

/-- Byte k of a number, the lowest first. -/
def byteAt (n : Int) (k : Nat) : Int := IntKind.u8.wrap (n / 2 ^ (8 * k))
theorem byteAt_bd (n : Int) (k : Nat) : 0 ≤ byteAt n k ∧ byteAt n k ≤ 255 := by
  unfold byteAt
  rw [IntKind.wrap_u8]
  omega
/-- A list with k bytes of a number laid over it from a place on. -/
def laidOver (zs : List Int) (a : Nat) (n : Int) : Nat → List Int
  | 0 => zs
  | k + 1 => (laidOver zs a n k).set (a + k) (byteAt n k)
theorem laidOver_length (zs : List Int) (a : Nat) (n : Int) : ∀ k, (laidOver zs a n k).length = zs.length
  | 0 => rfl
  | k + 1 => by simp [laidOver, laidOver_length zs a n k]
theorem laidOver_get (zs : List Int) (a : Nat) (n : Int) : ∀ (k j : Nat), a + k ≤ zs.length → (laidOver zs a n k).getD j 0 = if a ≤ j ∧ j < a + k then byteAt n (j - a) else zs.getD j 0
  | 0, j, _ => by simp [laidOver]; omega
  | k + 1, j, h => by
    have ih := laidOver_get zs a n k j (by omega)
    have hl := laidOver_length zs a n k
    simp only [laidOver]
    by_cases hj : j = a + k
    · subst hj
      rw [if_pos (by omega), show a + k - a = k from by omega]
      simp [List.getD, hl, show a + k < zs.length by omega]
    · have e : ((laidOver zs a n k).set (a + k) (byteAt n k)).getD j 0 = (laidOver zs a n k).getD j 0 := by
        simp only [List.getD]
        rw [List.getElem?_set_ne (by omega)]
      rw [e, ih]
      by_cases h1 : a ≤ j ∧ j < a + k
      · rw [if_pos h1, if_pos (by omega)]
      · rw [if_neg h1, if_neg (by omega)]
/-- A store into a row of the call's own. -/
theorem OwnR.set {w : World} {base : Nat} {e : TypeId} {g n cap : Nat} {zs : List Int} (h : OwnR w base e g n cap zs) (j : Nat) (b : Int) : OwnR (w.setCell ⟨g, j, none⟩ (.int .u8 b)) base e g n cap (zs.set j b) := by
  obtain ⟨hl, h'⟩ := h
  rcases h' with ⟨hv, _⟩ | ⟨g', cap', cur, hv, hb, hg, hn, hm, hs, ht⟩
  · cases hv
  · cases hv
    refine ⟨by simpa [u8s] using hl, .inr ⟨g, cap, cur.setIfInBounds j (.int .u8 b), rfl, hb, ?_, hn, hm, by simpa using hs, ?_⟩⟩
    · simp [World.setCell, Array.getElem?_modify, hg]
    · have e1 : u8s (zs.set j b) = (u8s zs).set j (.int .u8 b) := by simp [u8s, List.map_set]
      rw [e1, ← ht]
      simp [List.take_set]
theorem set_grown (w : World) (g j : Nat) (v : Value) : w.grownBy (w.setCell ⟨g, j, none⟩ v) (some g) :=
  ⟨rfl, rfl, rfl, by simp [World.setCell], fun k _ hk => Below.heap_setCell _ _ _ _ (by simp at hk; exact hk)⟩
theorem grown_trans {a b c : World} {row : Option Nat} (h : a.grownBy b row) (k : b.grownBy c row) : a.grownBy c row :=
  ⟨k.os.trans h.os, k.tape.trans h.tape, k.output.trans h.output, Nat.le_trans h.size k.size, fun i hi hr => (k.block i (Nat.lt_of_lt_of_le hi h.size) hr).trans (h.block i hi hr)⟩

theorem store_yes (base g m cap : Nat) (a s n : Int) (w : World) (zs : List Int) (hown : OwnR w base 5 g m cap zs) (hm : (m : Int) ≤ 9223372036854775807) (h0 : 0 ≤ a) (h2 : a ≤ m) (h3 : s ≤ m - a) (hs : s = 1 ∨ s = 2 ∨ s = 4 ∨ s = 8) :
    Calls Try.prog 23 #[.slice (some ⟨g, 0, none⟩) m cap, .int .i64 a, .int .i64 s, .int .u64 n] w fun e w' => e = .returned (.bool true) ∧ OwnR w' base 5 g m cap (laidOver zs a.toNat n s.toNat) ∧ w.grownBy w' (some g) := by
  obtain ⟨a, rfl⟩ := Int.eq_ofNat_of_zero_le h0
  have hs1 : 0 ≤ s := by omega
  have hs8 : s ≤ 8 := by omega
  have HO := Lib.hid hown
  clear hown
  go_enter Try.func23, Try.ntmps23
  go_wp2_with (first | (go_at_call 21; refine (sized_yes _ _ hs).mono ?_; rintro e w' ⟨rfl, rfl⟩) | (go_at_call 26; refine (within_yes _ _ _ _ _ _ hm h0 hs1 h2 h3).mono ?_; rintro e w' ⟨rfl, rfl⟩))
  go_loopw [21] (fun i wr => ∃ k : Nat, (k : Int) ≤ s ∧ i = .int .i64 k ∧ OwnR wr base 5 g m cap (laidOver zs a n k) ∧ w.grownBy wr (some g)) (fun i _ => (s - intOf i).toNat)
  case atStart => exact ⟨0, hs1, rfl, HO.out, World.grownBy.refl w _⟩
  case round =>
    obtain ⟨k, hk, rfl, hown, hgr⟩ := hrel
    have HR := Lib.hid hown
    have HG := Lib.hid hgr
    clear hown hgr
    by_cases hlt : (k : Int) < s
    · obtain ⟨hl, _, _, hc, _, hcell, hfz⟩ := HR.out.facts
      have c1 := hcell (a + k) (by omega)
      have c2 := hfz (a + k)
      clear hcell hfz hl
      go_wp2
      go_roundw
      case rel =>
        refine ⟨k + 1, by omega, by go_num, ?_, ?_⟩
        · exact HR.out.set (a + k) (byteAt n k)
        · exact grown_trans HG.out (set_grown _ _ _ _)
      case measure => simp [intOf]; omega
    · go_wp2
      go_ret
      obtain rfl : s = k := by omega
      exact ⟨rfl, HR.out, HG.out⟩
theorem store_no (p : Option Addr) (len cap : Nat) (a s n : Int) (w : World) (hl : (len : Int) ≤ 9223372036854775807)
    (h : ¬ (s = 1 ∨ s = 2 ∨ s = 4 ∨ s = 8) ∨ a < 0 ∨ (len : Int) < a ∨ len - a < s) :
    Calls Try.prog 23 #[.slice p len cap, .int .i64 a, .int .i64 s, .int .u64 n] w fun e w' => e = .returned (.bool false) ∧ w = w' := by
  by_cases hn : s = 1 ∨ s = 2 ∨ s = 4 ∨ s = 8
  · have h' : a < 0 ∨ s < 0 ∨ (len : Int) < a ∨ len - a < s := by omega
    clear h
    go_enter Try.func23, Try.ntmps23
    go_wp2_with (first | (go_at_call 21; refine (sized_yes _ _ hn).mono ?_; rintro e w' ⟨rfl, rfl⟩) | (go_at_call 26; refine (within_no _ _ _ _ _ _ hl h').mono ?_; rintro e w' ⟨rfl, rfl⟩))
    go_ret
    exact ⟨rfl, rfl⟩
  · clear h
    go_enter Try.func23, Try.ntmps23
    go_wp2_with (go_at_call 21; refine (sized_no _ _ hn).mono ?_; rintro e w' ⟨rfl, rfl⟩)
    go_ret
    exact ⟨rfl, rfl⟩
def zeros (n : Nat) : List Int := List.replicate n 0
theorem made_zeros (n : Nat) : (madeCells (Value.int .u8 0).cells n).toList = u8s (zeros n) := by
  apply List.ext_getElem?
  intro i
  by_cases hi : i < n
  · simp [madeCells, zeros, u8s, Value.cells, hi, Nat.mod_one]
  · simp [madeCells, zeros, u8s, hi]
theorem own_weaken {w : World} {base base' : Nat} {e : TypeId} {g n cap : Nat} {zs : List Int} (h : OwnR w base e g n cap zs) (hb : base' ≤ base) : OwnR w base' e g n cap zs := by
  obtain ⟨hl, h'⟩ := h
  refine ⟨hl, ?_⟩
  rcases h' with h1 | ⟨g', cap', cur, h1, h2, h3⟩
  · exact .inl h1
  · exact .inr ⟨g', cap', cur, h1, Nat.le_trans hb h2, h3⟩
/-- The document's own bytes of a number: n of them in a row of the call's own. -/
theorem rput_any (base : Nat) (x : Int) (n : Nat) (w : World) (hbase : base ≤ w.heap.size) (hn : n ≤ 8) :
    Calls Try.prog 13 #[.int .u64 x, .int .i64 n] w fun e w' => ∃ g, e = .returned (.slice (some ⟨g, 0, none⟩) n n) ∧ OwnR w' base 5 g n n (laidOver (zeros n) 0 x n) ∧ Below w.heap.size w w' := by
  obtain ⟨i0, hi0, hz0, hz1, hz2⟩ := info_parts u8_info
  have I1 := Lib.hid hi0
  have I2 := Lib.hid hz0
  have I3 := Lib.hid hz1
  have I4 := Lib.hid hz2
  clear hi0 hz0 hz1 hz2
  go_enter Try.func13, Try.ntmps13
  go_wp2_with (at_make; refine wpList_make_full _ rfl _ _ 26 rfl w.heap.size 5 i0 (.int .u8 0) 1 Try.underlying26 I1.out I2.out I3.out .i64 .i64 _ _ n rfl rfl rfl rfl (by rw [I4.out]; omega) (by unfold maxLen; omega) (Nat.le_refl _) ?_; intro w2 hown2 hg2)
  have hown : OwnR w2 w.heap.size 5 w.heap.size n n (zeros n) := by
    unfold OwnR
    rw [← made_zeros, show n = n * 1 from (Nat.mul_one n).symm]
    simpa using hown2
  have HO := Lib.hid hown
  have HG := Lib.hid ((Below.refl w.heap.size w).grown hg2 (Nat.le_refl _) (by simp))
  clear hown hown2 hg2
  go_loopw [6] (fun i wr => ∃ k : Nat, k ≤ n ∧ i = .int .i64 k ∧ OwnR wr w.heap.size 5 w.heap.size n n (laidOver (zeros n) 0 x k) ∧ Below w.heap.size w wr) (fun i _ => (n - intOf i).toNat)
  case atStart => exact ⟨0, Nat.zero_le _, rfl, HO.out, HG.out⟩
  case round =>
    obtain ⟨k, hk, rfl, hown, hgr⟩ := hrel
    have HR := Lib.hid hown
    have HB := Lib.hid hgr
    clear hown hgr
    by_cases hlt : k < n
    · obtain ⟨hl, _, _, hc, _, hcell, hfz⟩ := HR.out.facts
      have c1 := hcell k (by omega)
      have c2 := hfz k
      clear hcell hfz hl
      go_wp2
      go_roundw
      case rel =>
        refine ⟨k + 1, by omega, by go_num, ?_, ?_⟩
        · have h := HR.out.set k (byteAt x k)
          simp only [laidOver, Nat.zero_add]
          exact h
        · exact HB.out.setCell (Nat.le_refl _) _
      case measure => simp [intOf]; omega
    · go_wp2
      go_ret
      obtain rfl : n = k := by omega
      exact ⟨w.heap.size, rfl, own_weaken HR.out hbase, HB.out⟩
theorem leNum_bytes (n : Nat) : ∀ k, leNum (byteAt (n : Int)) k = ((n % 2 ^ (8 * k) : Nat) : Int)
  | 0 => by simp [leNum, Nat.mod_one]
  | k + 1 => by
    have ih := leNum_bytes n k
    simp only [leNum, ih]
    have e : byteAt (n : Int) k = ((n / 2 ^ (8 * k) % 256 : Nat) : Int) := by
      unfold byteAt
      rw [IntKind.wrap_u8]
      have : ((2 : Int) ^ (8 * k)) = ((2 ^ (8 * k) : Nat) : Int) := by simp
      rw [this]
      generalize 2 ^ (8 * k) = P
      omega
    rw [e, show 8 * (k + 1) = 8 * k + 8 from by omega, Nat.pow_add, Nat.mod_mul]
    have : ((2 : Int) ^ (8 * k)) = ((2 ^ (8 * k) : Nat) : Int) := by simp
    rw [this]
    generalize 2 ^ (8 * k) = P
    simp [Int.mul_comm]
/-- What was laid is read. -/
theorem leAt_laid (bs : List Int) (a s n : Nat) (h : a + s ≤ bs.length) : leAt (laidOver bs a n s) a s = ((n % 2 ^ (8 * s) : Nat) : Int) := by
  rw [← leNum_bytes]
  unfold leAt
  apply leNum_congr
  intro j hj
  rw [laidOver_get bs a n s (a + j) h, if_pos (by omega), show a + j - a = j from by omega]
theorem leAt_laid1 (bs : List Int) (a : Nat) (n : Int) (h0 : 0 ≤ n) (h : a + 1 ≤ bs.length) : leAt (laidOver bs a n 1) a 1 = n % 256 := by
  obtain ⟨n, rfl⟩ := Int.eq_ofNat_of_zero_le h0
  exact leAt_laid bs a 1 n h
theorem leAt_laid2 (bs : List Int) (a : Nat) (n : Int) (h0 : 0 ≤ n) (h : a + 2 ≤ bs.length) : leAt (laidOver bs a n 2) a 2 = n % 65536 := by
  obtain ⟨n, rfl⟩ := Int.eq_ofNat_of_zero_le h0
  exact leAt_laid bs a 2 n h
theorem leAt_laid4 (bs : List Int) (a : Nat) (n : Int) (h0 : 0 ≤ n) (h : a + 4 ≤ bs.length) : leAt (laidOver bs a n 4) a 4 = n % 4294967296 := by
  obtain ⟨n, rfl⟩ := Int.eq_ofNat_of_zero_le h0
  exact leAt_laid bs a 4 n h
theorem leAt_laid8 (bs : List Int) (a : Nat) (n : Int) (h0 : 0 ≤ n) (h1 : n ≤ 18446744073709551615) (h : a + 8 ≤ bs.length) : leAt (laidOver bs a n 8) a 8 = n := by
  obtain ⟨n, rfl⟩ := Int.eq_ofNat_of_zero_le h0
  have e := leAt_laid bs a 8 n h
  rw [e]
  have : n % 2 ^ (8 * 8) = n := Nat.mod_eq_of_lt (by omega)
  rw [this]
theorem laidOver_take (bs : List Int) (a s : Nat) (n : Int) (h : a + s ≤ bs.length) : (laidOver bs a n s).take a = bs.take a := by
  apply List.ext_getElem?
  intro j
  by_cases hj : j < a
  · have e := laidOver_get bs a n s j h
    rw [if_neg (by omega)] at e
    have l1 : j < (laidOver bs a n s).length := by rw [laidOver_length]; omega
    have l2 : j < bs.length := by omega
    simp only [List.getElem?_take, if_pos hj]
    simp only [List.getD, List.getElem?_eq_getElem l1, List.getElem?_eq_getElem l2, Option.getD_some] at e ⊢
    rw [e]
  · simp [List.getElem?_take, hj]
theorem laidOver_drop (bs : List Int) (a s : Nat) (n : Int) (h : a + s ≤ bs.length) : (laidOver bs a n s).drop (a + s) = bs.drop (a + s) := by
  apply List.ext_getElem?
  intro j
  by_cases hj : a + s + j < bs.length
  · have e := laidOver_get bs a n s (a + s + j) h
    rw [if_neg (by omega)] at e
    have l1 : a + s + j < (laidOver bs a n s).length := by rw [laidOver_length]; omega
    simp only [List.getElem?_drop]
    simp only [List.getD, List.getElem?_eq_getElem l1, List.getElem?_eq_getElem hj, Option.getD_some] at e ⊢
    rw [e]
  · rw [List.getElem?_eq_none (by rw [List.length_drop, laidOver_length]; omega), List.getElem?_eq_none (by rw [List.length_drop]; omega)]
end Go.Proofs.Ytennhmaiecfgpaa
