/-
  The frame of the maker's enums where some of its slots are known, and written out. No run stands in this text. (Made by program: wip/tools/gen-mkenf.py.)
-/
import Derived.Test.YtdlfndjgncdgfaaGreatDoorPkS2
import Derived.Test.YtdlfndjgncdgfaaGreatDoorPkS3
import Derived.Test.YtdlfndjgncdgfaaGreatDoorPkS5
import Derived.Test.YtdlfndjgncdgfaaGreatDoorPkS7
import Derived.Test.YtdlfndjgncdgfaaGreatDoorPkS12
import Derived.Test.YtdlfndjgncdgfaaGreatDoorRows
import Derived.WalkKit
import Derived.ProofKit
import Derived.OpenShut
import Derived.ShutString
import Derived.ChangeOld
import Derived.Below
import Derived.WalkLawsBesides
import Derived.WalkSpells
import Derived.Lib.Hide
import Derived.Outline
import Derived.Handy
namespace Go.Proofs.YtdlfndjgncdgfaaGreatDoor
open Go.ChangeShapes Go.WideShapes Go.ChangeAt Go.RowKit Go.Shelf

theorem fits_un (v : Int) (size m : Int) (h : span size = m) (hm : 0 < m) (h0 : 0 ≤ v) : (v / m == 0) = fitsB v false size false := by
  unfold fitsB
  rw [h, if_neg (by decide), Bool.not_false, Bool.true_and, Bool.eq_iff_iff, beq_iff_eq, decide_eq_true_iff]
  constructor
  · intro hz
    have h1 := Int.emod_lt_of_pos v hm
    have h2 := Int.mul_ediv_add_emod v m
    rw [hz, Int.mul_zero] at h2
    omega
  · intro hl
    exact Int.ediv_eq_zero_of_lt h0 hl
theorem fits_below (v : Int) (size : Int) : false = fitsB v true size false := by
  unfold fitsB
  rw [if_neg (by decide), Bool.not_true, Bool.false_and]
theorem fits_sg (v : Int) (size m : Int) (h : span size / 2 = m) : decide (v < m) = fitsB v false size true := by
  unfold fitsB
  rw [h, if_pos rfl, Bool.false_and, Bool.or_false]
theorem fits_sb (v : Int) (size m : Int) (h : span size / 2 = m) : (decide (v < m) || v == m) = fitsB v true size true := by
  unfold fitsB
  rw [h, if_pos rfl, Bool.true_and]
  rfl
theorem span_1 : span 1 = 256 := rfl
theorem span_2 : span 2 = 65536 := rfl
theorem span_4 : span 4 = 4294967296 := rfl
theorem span_8 : span 8 = 18446744073709551616 := rfl
theorem half_1 : span 1 / 2 = 128 := rfl
theorem half_2 : span 2 / 2 = 32768 := rfl
theorem half_4 : span 4 / 2 = 2147483648 := rfl
theorem half_8 : span 8 / 2 = 9223372036854775808 := rfl
set_option maxHeartbeats 1000000 in
theorem fits_any (v : Int) (below : Bool) (size : Int) (sign : Bool) (w : World) (h0 : 0 ≤ v) (hs : size = 1 ∨ size = 2 ∨ size = 4 ∨ size = 8) :
    Calls Tryz.prog 161 #[.int .u64 v, .bool below, .int .i64 size, .bool sign] w fun e w' => e = .returned (.bool (fitsB v below size sign)) ∧ w = w' := by
  rcases hs with rfl | rfl | rfl | rfl
  · cases sign <;> cases below
    · have e := Lib.hid (fits_un v 1 256 span_1 (by decide) h0)
      go_enter Tryz.func161, Tryz.ntmps161
      go_wp2
      all_goals
        go_ret
        exact ⟨ret_bool e.out, rfl⟩
    · have e := Lib.hid (fits_below v 1)
      go_enter Tryz.func161, Tryz.ntmps161
      go_wp2
      all_goals
        go_ret
        exact ⟨ret_bool e.out, rfl⟩
    · by_cases hl : v < 128
      · have e := Lib.hid (fits_sg v 1 128 half_1)
        have t : decide (v < 128) = true := by simpa using hl
        rw [t] at e
        go_enter Tryz.func161, Tryz.ntmps161
        go_wp2
        go_ret
        exact ⟨ret_bool (e.out), rfl⟩
      · have e := Lib.hid (fits_sg v 1 128 half_1)
        have t : decide (v < 128) = false := by simpa using hl
        rw [t] at e
        go_enter Tryz.func161, Tryz.ntmps161
        go_wp2
        go_ret
        exact ⟨ret_bool (e.out), rfl⟩
    · by_cases hl : v < 128
      · have e := Lib.hid (fits_sb v 1 128 half_1)
        have t : decide (v < 128) = true := by simpa using hl
        rw [t] at e
        go_enter Tryz.func161, Tryz.ntmps161
        go_wp2
        go_ret
        exact ⟨ret_bool (e.out), rfl⟩
      · have e := Lib.hid (fits_sb v 1 128 half_1)
        have t : decide (v < 128) = false := by simpa using hl
        rw [t] at e
        go_enter Tryz.func161, Tryz.ntmps161
        go_wp2
        go_ret
        exact ⟨ret_bool (e.out), rfl⟩
  · cases sign <;> cases below
    · have e := Lib.hid (fits_un v 2 65536 span_2 (by decide) h0)
      go_enter Tryz.func161, Tryz.ntmps161
      go_wp2
      all_goals
        go_ret
        exact ⟨ret_bool e.out, rfl⟩
    · have e := Lib.hid (fits_below v 2)
      go_enter Tryz.func161, Tryz.ntmps161
      go_wp2
      all_goals
        go_ret
        exact ⟨ret_bool e.out, rfl⟩
    · by_cases hl : v < 32768
      · have e := Lib.hid (fits_sg v 2 32768 half_2)
        have t : decide (v < 32768) = true := by simpa using hl
        rw [t] at e
        go_enter Tryz.func161, Tryz.ntmps161
        go_wp2
        go_ret
        exact ⟨ret_bool (e.out), rfl⟩
      · have e := Lib.hid (fits_sg v 2 32768 half_2)
        have t : decide (v < 32768) = false := by simpa using hl
        rw [t] at e
        go_enter Tryz.func161, Tryz.ntmps161
        go_wp2
        go_ret
        exact ⟨ret_bool (e.out), rfl⟩
    · by_cases hl : v < 32768
      · have e := Lib.hid (fits_sb v 2 32768 half_2)
        have t : decide (v < 32768) = true := by simpa using hl
        rw [t] at e
        go_enter Tryz.func161, Tryz.ntmps161
        go_wp2
        go_ret
        exact ⟨ret_bool (e.out), rfl⟩
      · have e := Lib.hid (fits_sb v 2 32768 half_2)
        have t : decide (v < 32768) = false := by simpa using hl
        rw [t] at e
        go_enter Tryz.func161, Tryz.ntmps161
        go_wp2
        go_ret
        exact ⟨ret_bool (e.out), rfl⟩
  · cases sign <;> cases below
    · have e := Lib.hid (fits_un v 4 4294967296 span_4 (by decide) h0)
      go_enter Tryz.func161, Tryz.ntmps161
      go_wp2
      all_goals
        go_ret
        exact ⟨ret_bool e.out, rfl⟩
    · have e := Lib.hid (fits_below v 4)
      go_enter Tryz.func161, Tryz.ntmps161
      go_wp2
      all_goals
        go_ret
        exact ⟨ret_bool e.out, rfl⟩
    · by_cases hl : v < 2147483648
      · have e := Lib.hid (fits_sg v 4 2147483648 half_4)
        have t : decide (v < 2147483648) = true := by simpa using hl
        rw [t] at e
        go_enter Tryz.func161, Tryz.ntmps161
        go_wp2
        go_ret
        exact ⟨ret_bool (e.out), rfl⟩
      · have e := Lib.hid (fits_sg v 4 2147483648 half_4)
        have t : decide (v < 2147483648) = false := by simpa using hl
        rw [t] at e
        go_enter Tryz.func161, Tryz.ntmps161
        go_wp2
        go_ret
        exact ⟨ret_bool (e.out), rfl⟩
    · by_cases hl : v < 2147483648
      · have e := Lib.hid (fits_sb v 4 2147483648 half_4)
        have t : decide (v < 2147483648) = true := by simpa using hl
        rw [t] at e
        go_enter Tryz.func161, Tryz.ntmps161
        go_wp2
        go_ret
        exact ⟨ret_bool (e.out), rfl⟩
      · have e := Lib.hid (fits_sb v 4 2147483648 half_4)
        have t : decide (v < 2147483648) = false := by simpa using hl
        rw [t] at e
        go_enter Tryz.func161, Tryz.ntmps161
        go_wp2
        go_ret
        exact ⟨ret_bool (e.out), rfl⟩
  · cases sign <;> cases below
    · have e := Lib.hid (fits_un v 8 18446744073709551616 span_8 (by decide) h0)
      go_enter Tryz.func161, Tryz.ntmps161
      go_wp2
      all_goals
        go_ret
        exact ⟨ret_bool e.out, rfl⟩
    · have e := Lib.hid (fits_below v 8)
      go_enter Tryz.func161, Tryz.ntmps161
      go_wp2
      all_goals
        go_ret
        exact ⟨ret_bool e.out, rfl⟩
    · by_cases hl : v < 9223372036854775808
      · have e := Lib.hid (fits_sg v 8 9223372036854775808 half_8)
        have t : decide (v < 9223372036854775808) = true := by simpa using hl
        rw [t] at e
        go_enter Tryz.func161, Tryz.ntmps161
        go_wp2
        go_ret
        exact ⟨ret_bool (e.out), rfl⟩
      · have e := Lib.hid (fits_sg v 8 9223372036854775808 half_8)
        have t : decide (v < 9223372036854775808) = false := by simpa using hl
        rw [t] at e
        go_enter Tryz.func161, Tryz.ntmps161
        go_wp2
        go_ret
        exact ⟨ret_bool (e.out), rfl⟩
    · by_cases hl : v < 9223372036854775808
      · have e := Lib.hid (fits_sb v 8 9223372036854775808 half_8)
        have t : decide (v < 9223372036854775808) = true := by simpa using hl
        rw [t] at e
        go_enter Tryz.func161, Tryz.ntmps161
        go_wp2
        go_ret
        exact ⟨ret_bool (e.out), rfl⟩
      · have e := Lib.hid (fits_sb v 8 9223372036854775808 half_8)
        have t : decide (v < 9223372036854775808) = false := by simpa using hl
        rw [t] at e
        go_enter Tryz.func161, Tryz.ntmps161
        go_wp2
        go_ret
        exact ⟨ret_bool (e.out), rfl⟩
end Go.Proofs.YtdlfndjgncdgfaaGreatDoor
namespace Go.Proofs.YtdlfndjgncdgfaaGreatDoor
open Go.ChangeShapes Go.WideShapes Go.ChangeAt Go.RowKit

def u8From (zs : List Int) : Nat → Nat → Int
  | 0, _ => -1
  | fuel + 1, i => if i < zs.length then (if (dec (zs.drop i)).1 = 65533 ∧ (dec (zs.drop i)).2 = 1 then (i : Int) else u8From zs fuel (i + (dec (zs.drop i)).2.toNat)) else -1
def u8At (zs : List Int) (i : Nat) : Int := u8From zs (zs.length + 1) i
theorem u8From_fuel (zs : List Int) : ∀ (f g i : Nat), zs.length < f + i → zs.length < g + i → u8From zs f i = u8From zs g i
  | 0, 0, _, _, _ => rfl
  | 0, g + 1, i, hf, _ => by simp only [u8From]; rw [if_neg (by omega)]
  | f + 1, 0, i, _, hg => by simp only [u8From]; rw [if_neg (by omega)]
  | f + 1, g + 1, i, hf, hg => by
    simp only [u8From]
    by_cases h : i < zs.length
    · have hw := dec_width (zs.drop i) (by simp; omega)
      rw [if_pos h, if_pos h, u8From_fuel zs f g (i + (dec (zs.drop i)).2.toNat) (by omega) (by omega)]
    · rw [if_neg h, if_neg h]
theorem u8At_end (zs : List Int) (i : Nat) (h : zs.length ≤ i) : u8At zs i = -1 := by
  unfold u8At u8From
  rw [if_neg (by omega)]
theorem u8At_bad (zs : List Int) (i : Nat) (h : i < zs.length) (h1 : (dec (zs.drop i)).1 = 65533) (h2 : (dec (zs.drop i)).2 = 1) : u8At zs i = i := by
  unfold u8At u8From
  rw [if_pos h, if_pos ⟨h1, h2⟩]
theorem u8At_good (zs : List Int) (i : Nat) (h : i < zs.length) (h1 : ¬ ((dec (zs.drop i)).1 = 65533 ∧ (dec (zs.drop i)).2 = 1)) : u8At zs i = u8At zs (i + (dec (zs.drop i)).2.toNat) := by
  have hw := dec_width (zs.drop i) (by simp; omega)
  conv => lhs; unfold u8At u8From
  rw [if_pos h, if_neg h1]
  exact u8From_fuel zs _ _ _ (by omega) (by omega)

def Bytes (w : World) (p : Option Addr) (zs : List Int) : Prop :=
  (∀ i, 0 ≤ zs.getD i 0 ∧ zs.getD i 0 ≤ 255) ∧ (zs ≠ [] → ∃ b off, p = some ⟨b, off, none⟩ ∧ b < w.heap.size ∧ ∀ i, i < zs.length → w.cell? ⟨b, off + i, none⟩ = some (.int .u8 (zs.getD i 0)))
theorem Bytes.below {w w' : World} {p : Option Addr} {zs : List Int} {B : Nat} (h : Bytes w p zs) (hB : w.heap.size ≤ B) (hb : Below B w w') : Bytes w' p zs := by
  refine ⟨h.1, fun hne => ?_⟩
  obtain ⟨b, off, rfl, hlt, hc⟩ := h.2 hne
  exact ⟨b, off, rfl, Nat.lt_of_lt_of_le hlt hb.size, fun i hi => (hb.cell (p := ⟨b, off + i, none⟩) (Nat.lt_of_lt_of_le hlt hB)).trans (hc i hi)⟩
theorem dec_at (zs : List Int) (i : Nat) (b off cap : Nat) (w : World) (hT : Tabs w) (hc : ∀ i, i < zs.length → w.cell? ⟨b, off + i, none⟩ = some (.int .u8 (zs.getD i 0))) (hb : ∀ i, 0 ≤ zs.getD i 0 ∧ zs.getD i 0 ≤ 255) :
    Calls Tryz.prog 148 #[.slice (some ⟨b, off + i, none⟩) (zs.length - i) cap] w fun e w' => e = .returned (.tuple #[.int .i32 (dec (zs.drop i)).1, .int .i64 (dec (zs.drop i)).2]) ∧ Below w.heap.size w w' := by
  have h := dec_any (zs.drop i) b (off + i) cap w hT (fun j hj => by
    have := hc (i + j) (by simp at hj; omega)
    rw [Nat.add_assoc, this]
    simp [List.getD]) (fun j => by
    have := hb (i + j)
    simpa [List.getD] using this)
  simp only [List.length_drop] at h
  exact h

theorem wutf8_some (b off cap : Nat) (zs : List Int) (w : World) (hT : Tabs w) (hb : ∀ i, 0 ≤ zs.getD i 0 ∧ zs.getD i 0 ≤ 255) (hlt : zs ≠ [] → b < w.heap.size) (hc : ∀ i, i < zs.length → w.cell? ⟨b, off + i, none⟩ = some (.int .u8 (zs.getD i 0)))
    (hl : (zs.length : Int) ≤ 9223372036854775800) (hcap : zs.length ≤ cap) :
    Calls Tryz.prog 137 #[.slice (some ⟨b, off, none⟩) zs.length cap] w fun e w' => e = .returned (.int .i64 (u8At zs 0)) ∧ Below w.heap.size w w' := by
  obtain ⟨n, hn⟩ : ∃ n, n = zs.length := ⟨_, rfl⟩
  have HN := Lib.hid hn
  have HP := Lib.hid hc
  have HB := Lib.hid hb
  have HL := Lib.hid hlt
  have HT := Lib.hid hT
  rw [← hn] at hl hcap ⊢
  clear hc hb hn hlt hT
  go_enter Tryz.func137, Tryz.ntmps137
  go_wp2
  go_loopw [3, 9] (fun x i wr => Below w.heap.size w wr ∧ ∃ k j : Nat, k ≤ j ∧ j ≤ n ∧ i = .int .i64 k ∧ x = .int .i64 j ∧ u8At zs 0 = u8At zs j) (fun _ i _ => n - (intOf i).toNat)
  case atStart => exact ⟨Below.refl _ _, 0, 0, Nat.le_refl _, Nat.zero_le _, rfl, rfl, rfl⟩
  case round =>
    obtain ⟨hbel, k, j, hkj, hjn, rfl, rfl, hans⟩ := hrel
    have HA := Lib.hid hans
    clear hans
    by_cases hlt : k < n
    · by_cases hkj' : k < j
      · go_wp2
        go_roundw
        case rel => exact ⟨hbel, k + 1, j, by omega, hjn, by go_num, rfl, HA.out⟩
        case measure => simp [intOf]; omega
      · obtain rfl : k = j := by omega
        have hk : k < zs.length := by rw [← HN.out]; exact hlt
        have hw := dec_width (zs.drop k) (by simp; omega)
        have hbs : b < w.heap.size := HL.out (by intro h; rw [h] at hk; simp at hk)
        have D := dec_at zs k b off (cap - k) _ (HT.out.below (Nat.le_refl _) hbel) (fun i hi => (hbel.cell (p := ⟨b, off + i, none⟩) hbs).trans (HP.out i hi)) HB.out
        rw [← HN.out] at D
        have hbad := u8At_bad zs k hk
        have hgood := u8At_good zs k hk
        have hw3 : (dec (zs.drop k)).2 ≤ n - k := by have h2 := hw.2.2; have h3 := HN.out; simp at h2; omega
        clear hk hbs
        generalize (dec (zs.drop k)).1 = R at D hbad hgood hw hw3
        generalize (dec (zs.drop k)).2 = K at D hbad hgood hw hw3
        obtain ⟨hw1, hw2, _⟩ := hw
        by_cases hx : R = 65533 ∧ K = 1
        · have E := Lib.hid (hbad hx.1 hx.2)
          have t1 : (R == 65533) = true := by simp [hx.1]
          have t2 : (K == 1) = true := by simp [hx.2]
          have HD := Lib.hid D
          clear hbad hgood hx D
          go_wp2_with (go_at_call 148; refine HD.out.mono ?_; rintro e w1 ⟨rfl, hb1⟩)
          go_ret
          exact ⟨ret_int (by rw [HA.out, E.out]), hbel.trans (hb1.mono hbel.size)⟩
        · have E := Lib.hid (hgood hx)
          have HD := Lib.hid D
          have HA2 : Hid (u8At zs 0 = u8At zs (k + K.toNat)) := HA.out.trans E.out
          clear hbad hgood D E HA
          by_cases hr : R = 65533
          · have t1 : (R == 65533) = true := by simp [hr]
            have t2 : (K == 1) = false := by simp; exact fun h => hx ⟨hr, h⟩
            clear hx hr
            go_wp2_with (go_at_call 148; refine HD.out.mono ?_; rintro e w1 ⟨rfl, hb1⟩)
            go_roundw
            case rel => exact ⟨hbel.trans (hb1.mono hbel.size), k + 1, k + K.toNat, by omega, by omega, by go_num, by rw [show ((k + K.toNat : Nat) : Int) = k + K from by omega], HA2.out⟩
            case measure => simp [intOf]; omega
          · have t1 : (R == 65533) = false := by simp [hr]
            clear hx hr
            go_wp2_with (go_at_call 148; refine HD.out.mono ?_; rintro e w1 ⟨rfl, hb1⟩)
            go_roundw
            case rel => exact ⟨hbel.trans (hb1.mono hbel.size), k + 1, k + K.toNat, by omega, by omega, by go_num, by rw [show ((k + K.toNat : Nat) : Int) = k + K from by omega], HA2.out⟩
            case measure => simp [intOf]; omega
    · go_wp2
      go_ret
      have hj : j = n := by omega
      exact ⟨ret_int (by rw [HA.out, u8At_end _ _ (by rw [hj, HN.out]; exact Nat.le_refl _)]), hbel⟩
theorem rutf8_some (b off cap : Nat) (zs : List Int) (w : World) (hT : Tabs w) (hb : ∀ i, 0 ≤ zs.getD i 0 ∧ zs.getD i 0 ≤ 255) (hlt : zs ≠ [] → b < w.heap.size) (hc : ∀ i, i < zs.length → w.cell? ⟨b, off + i, none⟩ = some (.int .u8 (zs.getD i 0)))
    (hl : (zs.length : Int) ≤ 9223372036854775800) (hcap : zs.length ≤ cap) :
    Calls Tryz.prog 129 #[.slice (some ⟨b, off, none⟩) zs.length cap] w fun e w' => e = .returned (.int .i64 (u8At zs 0)) ∧ Below w.heap.size w w' := by
  obtain ⟨n, hn⟩ : ∃ n, n = zs.length := ⟨_, rfl⟩
  have HN := Lib.hid hn
  have HP := Lib.hid hc
  have HB := Lib.hid hb
  have HL := Lib.hid hlt
  have HT := Lib.hid hT
  rw [← hn] at hl hcap ⊢
  clear hc hb hn hlt hT
  go_enter Tryz.func129, Tryz.ntmps129
  go_wp2
  go_loopw [3] (fun i wr => Below w.heap.size w wr ∧ ∃ k : Nat, k ≤ n ∧ i = .int .i64 k ∧ u8At zs 0 = u8At zs k) (fun i _ => n - (intOf i).toNat)
  case atStart => exact ⟨Below.refl _ _, 0, Nat.zero_le _, rfl, rfl⟩
  case round =>
    obtain ⟨hbel, k, hkn, rfl, hans⟩ := hrel
    have HA := Lib.hid hans
    clear hans
    by_cases hlt : k < n
    · have hk : k < zs.length := by rw [← HN.out]; exact hlt
      have hw := dec_width (zs.drop k) (by simp; omega)
      have hbs : b < w.heap.size := HL.out (by intro h; rw [h] at hk; simp at hk)
      have D := dec_at zs k b off (cap - k) _ (HT.out.below (Nat.le_refl _) hbel) (fun i hi => (hbel.cell (p := ⟨b, off + i, none⟩) hbs).trans (HP.out i hi)) HB.out
      rw [← HN.out] at D
      have hbad := u8At_bad zs k hk
      have hgood := u8At_good zs k hk
      have hw3 : (dec (zs.drop k)).2 ≤ n - k := by have h2 := hw.2.2; have h3 := HN.out; simp at h2; omega
      clear hk hbs
      generalize (dec (zs.drop k)).1 = R at D hbad hgood hw hw3
      generalize (dec (zs.drop k)).2 = K at D hbad hgood hw hw3
      obtain ⟨hw1, hw2, _⟩ := hw
      by_cases hx : R = 65533 ∧ K = 1
      · have E := Lib.hid (hbad hx.1 hx.2)
        have t1 : (R == 65533) = true := by simp [hx.1]
        have t2 : K ≤ 1 := by omega
        have HD := Lib.hid D
        clear hbad hgood hx D
        go_wp2_with (go_at_call 148; refine HD.out.mono ?_; rintro e w1 ⟨rfl, hb1⟩)
        go_ret
        exact ⟨ret_int (by rw [HA.out, E.out]), hbel.trans (hb1.mono hbel.size)⟩
      · have E := Lib.hid (hgood hx)
        have HD := Lib.hid D
        have HA2 : Hid (u8At zs 0 = u8At zs (k + K.toNat)) := HA.out.trans E.out
        clear hbad hgood D E HA
        by_cases hr : R = 65533
        · have t1 : (R == 65533) = true := by simp [hr]
          have t2 : ¬ K ≤ 1 := fun h => hx ⟨hr, by omega⟩
          clear hx hr
          go_wp2_with (go_at_call 148; refine HD.out.mono ?_; rintro e w1 ⟨rfl, hb1⟩)
          go_roundw
          case rel => exact ⟨hbel.trans (hb1.mono hbel.size), k + K.toNat, by omega, by rw [show ((k + K.toNat : Nat) : Int) = k + K from by omega], HA2.out⟩
          case measure => simp [intOf]; omega
        · have t1 : (R == 65533) = false := by simp [hr]
          clear hx hr
          go_wp2_with (go_at_call 148; refine HD.out.mono ?_; rintro e w1 ⟨rfl, hb1⟩)
          go_roundw
          case rel => exact ⟨hbel.trans (hb1.mono hbel.size), k + K.toNat, by omega, by rw [show ((k + K.toNat : Nat) : Int) = k + K from by omega], HA2.out⟩
          case measure => simp [intOf]; omega
    · go_wp2
      go_ret
      have hj : k = n := by omega
      exact ⟨ret_int (by rw [HA.out, u8At_end _ _ (by rw [hj, HN.out]; exact Nat.le_refl _)]), hbel⟩
theorem rutf8_none (p : Option Addr) (cap : Nat) (w : World) :
    Calls Tryz.prog 129 #[.slice p 0 cap] w fun e w' => e = .returned (.int .i64 (-1)) ∧ w = w' := by
  go_enter Tryz.func129, Tryz.ntmps129
  go_wp2
  go_loop [3] (fun i => i = .int .i64 0) (fun _ => 0)
  case atStart => rfl
  case round =>
    subst hrel
    go_wp2
    go_ret
    exact ⟨rfl, rfl⟩
theorem rutf8_any (p : Option Addr) (cap : Nat) (zs : List Int) (w : World) (hT : Tabs w) (hz : Bytes w p zs) (hl : (zs.length : Int) ≤ 9223372036854775800) (hcap : zs.length ≤ cap) :
    Calls Tryz.prog 129 #[.slice p zs.length cap] w fun e w' => e = .returned (.int .i64 (u8At zs 0)) ∧ Below w.heap.size w w' := by
  by_cases hne : zs = []
  · subst hne
    exact (rutf8_none p cap w).mono fun e w' h => ⟨h.1, by rw [← h.2]; exact Below.refl _ _⟩
  · obtain ⟨b, off, rfl, hlt, hc⟩ := hz.2 hne
    exact rutf8_some b off cap zs w hT hz.1 (fun _ => hlt) hc hl hcap
theorem rutf8_call (a : Option Addr) (cap n : Nat) (zs : List Int) (w : World) (hT : Tabs w) (hz : Bytes w a zs) (hn : zs.length = n) (hl : (n : Int) ≤ 9223372036854775800) (hcap : n ≤ cap) :
    Calls Tryz.prog 129 #[.slice a n cap] w fun e w' => e = .returned (.int .i64 (u8At zs 0)) ∧ Below w.heap.size w w' := by
  subst hn
  exact rutf8_any _ cap zs w hT hz hl hcap
theorem wutf8_off (b off cap n : Nat) (zs : List Int) (w : World) (hT : Tabs w) (hb : ∀ i, 0 ≤ zs.getD i 0 ∧ zs.getD i 0 ≤ 255) (hlt : b < w.heap.size) (hc : ∀ i, i < zs.length → w.cell? ⟨b, off + i, none⟩ = some (.int .u8 (zs.getD i 0))) (hn : zs.length = n)
    (hl : (n : Int) ≤ 9223372036854775800) (hcap : n ≤ cap) :
    Calls Tryz.prog 137 #[.slice (some ⟨b, off, none⟩) n cap] w fun e w' => e = .returned (.int .i64 (u8At zs 0)) ∧ Below w.heap.size w w' := by
  subst hn
  exact wutf8_some b off cap zs w hT hb (fun _ => hlt) hc hl hcap
end Go.Proofs.YtdlfndjgncdgfaaGreatDoor
namespace Go.Proofs.YtdlfndjgncdgfaaGreatDoor
open Go.ChangeShapes Go.WideShapes Go.ChangeAt Go.RowKit Go.Shelf

theorem stands_any (p : Option Addr) (n cap i : Nat) (x : Int) (zs : List Int) (v : Value) (k : Int → Bool) (w : World) (hx : x = i) (hz : Bytes w p zs) (hn : zs.length = n) (hk : KindV w v k) (_hl : n ≤ 281474976710656) :
    Calls Tryz.prog 107 #[.slice p n cap, .int .i64 x, v] w fun e w' => e = .returned (.bool (stA zs k i)) ∧ Below w.heap.size w w' := by
  subst hx
  by_cases hi : i < n
  · obtain ⟨g, lb, rfl, hk⟩ := hk
    obtain ⟨hbd, hp⟩ := hz
    obtain ⟨b, off, rfl, hlt, hc⟩ := hp (by rintro rfl; simp at hn; omega)
    have hci := hc i (by omega)
    have hb := hbd i
    have e1 := hk.enters
    have H := Lib.hid (hk.gives w (zs.getD i 0) hb.1 hb.2 (Below.refl _ _))
    rw [stA_of (by omega)]
    have hd : decide ((i : Int) < (n : Int)) = true := by simp; exact hi
    generalize zs.getD i 0 = z at hci H
    generalize k z = r at H ⊢
    clear hbd hp hb hk hc hn
    go_enter Tryz.func107, Tryz.ntmps107
    go_wp2_with fail
    refine H.out.mono ?_
    rintro e W1 ⟨rfl, hb⟩
    go_wp2
    go_ret
    exact ⟨rfl, hb⟩
  · have hd : decide ((i : Int) < (n : Int)) = false := by simp; omega
    rw [stA_ge (by omega)]
    clear hz hk hn
    go_enter Tryz.func107, Tryz.ntmps107
    go_wp2
    go_ret
    exact ⟨rfl, Below.refl _ _⟩
theorem run_any (p : Option Addr) (n cap i : Nat) (x : Int) (zs : List Int) (v : Value) (k : Int → Bool) (w : World) (hx : x = i) (hz : Bytes w p zs) (hn : zs.length = n) (hk : KindV w v k) (hl : n ≤ 281474976710656) (hi : i ≤ n) :
    Calls Tryz.prog 103 #[.slice p n cap, .int .i64 x, v] w fun e w' => e = .returned (.int .i64 (runTo zs k i : Nat)) ∧ Below w.heap.size w w' := by
  subst hx
  have HS := Lib.hid (fun j W hb => stands_any p n cap j j zs v k W rfl (Bytes.below hz (Nat.le_refl _) hb) hn (hk.later hb) hl)
  have HN := Lib.hid hn
  obtain ⟨g, lb, rfl, _⟩ := hk
  clear hz hn
  go_enter Tryz.func103, Tryz.ntmps103
  go_wp2
  go_loopw [1] (fun i' wr => Below w.heap.size w wr ∧ ∃ j : Nat, j ≤ n ∧ i' = .int .i64 j ∧ runTo zs k i = runTo zs k j) (fun i' _ => n - (intOf i').toNat)
  case atStart => exact ⟨Below.refl _ _, i, hi, rfl, rfl⟩
  case round =>
    obtain ⟨hb, j, hj, rfl, hr⟩ := hrel
    have HB := Lib.hid hb
    have HR := Lib.hid hr
    clear hb hr
    cases hs : stA zs k j
    · have S := HS.out j _ HB.out
      rw [hs] at S
      have HS1 := Lib.hid S
      have HE := Lib.hid (runTo_stop hs)
      clear S hs
      go_wp2_with fail
      refine HS1.out.mono ?_
      rintro e W1 ⟨rfl, hb1⟩
      go_wp2
      go_ret
      exact ⟨ret_int (by rw [HR.out, HE.out]), HB.out.trans (hb1.mono HB.out.size)⟩
    · have S := HS.out j _ HB.out
      rw [hs] at S
      have HS1 := Lib.hid S
      have HE := Lib.hid (runTo_step hs)
      have hlt := stA_lt hs
      rw [HN.out] at hlt
      clear S hs
      go_wp2_with fail
      refine HS1.out.mono ?_
      rintro e W1 ⟨rfl, hb1⟩
      go_wp2
      go_roundw
      case rel => exact ⟨HB.out.trans (hb1.mono HB.out.size), j + 1, by omega, by go_num, by rw [HR.out, HE.out]⟩
      case measure => simp [intOf]; omega
end Go.Proofs.YtdlfndjgncdgfaaGreatDoor
namespace Go.Proofs.YtdlfndjgncdgfaaGreatDoor
open Go.ChangeShapes Go.WideShapes Go.ChangeAt Go.RowKit Go.Shelf

theorem ty_key : Tryz.prog.underlying 9 = some .string := by kernel_rfl
theorem ty_map : Tryz.prog.underlying 137 = some (.map 9 49) := by kernel_rfl
theorem int_map : Tryz.prog.underlying 143 = some (.map 9 3) := by kernel_rfl
theorem ty_zero (w : World) : (zeroValue 49).run Tryz.prog w = .ok (mtyV 0 0 0) w := by kernel_rfl
theorem int_zero (w : World) : (zeroValue 3).run Tryz.prog w = .ok (.int .i64 0) w := by kernel_rfl
set_option maxRecDepth 100000 in
set_option maxHeartbeats 2000000 in
theorem basic_any (w : World) : Calls Tryz.prog 60 #[] w fun e w' => ∃ b, e = .returned (.map (some b)) ∧ MapAt w' b (basicN.map entP) ∧ Below w.heap.size w w' ∧ w.heap.size ≤ b := by
  have hmm := @run_makeMap Tryz.prog
  obtain ⟨W1, r1, m1, x1⟩ := (MapAt.made w).store ty_key ty_map ⟨#[98, 111, 111, 108]⟩ (.agg #[.int .u8 1, .int .i64 0, .int .i64 0]) (by decide)
  obtain ⟨W2, r2, m2, x2⟩ := m1.store ty_key ty_map ⟨#[105, 56]⟩ (.agg #[.int .u8 2, .int .i64 0, .int .i64 0]) (by decide)
  obtain ⟨W3, r3, m3, x3⟩ := m2.store ty_key ty_map ⟨#[105, 49, 54]⟩ (.agg #[.int .u8 3, .int .i64 0, .int .i64 0]) (by decide)
  obtain ⟨W4, r4, m4, x4⟩ := m3.store ty_key ty_map ⟨#[105, 51, 50]⟩ (.agg #[.int .u8 4, .int .i64 0, .int .i64 0]) (by decide)
  obtain ⟨W5, r5, m5, x5⟩ := m4.store ty_key ty_map ⟨#[105, 54, 52]⟩ (.agg #[.int .u8 5, .int .i64 0, .int .i64 0]) (by decide)
  obtain ⟨W6, r6, m6, x6⟩ := m5.store ty_key ty_map ⟨#[117, 56]⟩ (.agg #[.int .u8 6, .int .i64 0, .int .i64 0]) (by decide)
  obtain ⟨W7, r7, m7, x7⟩ := m6.store ty_key ty_map ⟨#[117, 49, 54]⟩ (.agg #[.int .u8 7, .int .i64 0, .int .i64 0]) (by decide)
  obtain ⟨W8, r8, m8, x8⟩ := m7.store ty_key ty_map ⟨#[117, 51, 50]⟩ (.agg #[.int .u8 8, .int .i64 0, .int .i64 0]) (by decide)
  obtain ⟨W9, r9, m9, x9⟩ := m8.store ty_key ty_map ⟨#[117, 54, 52]⟩ (.agg #[.int .u8 9, .int .i64 0, .int .i64 0]) (by decide)
  obtain ⟨W10, r10, m10, x10⟩ := m9.store ty_key ty_map ⟨#[116, 101, 120, 116]⟩ (.agg #[.int .u8 11, .int .i64 0, .int .i64 0]) (by decide)
  obtain ⟨W11, r11, m11, x11⟩ := m10.store ty_key ty_map ⟨#[100, 97, 116, 97]⟩ (.agg #[.int .u8 12, .int .i64 0, .int .i64 0]) (by decide)
  obtain ⟨W12, r12, m12, x12⟩ := m11.store ty_key ty_map ⟨#[108, 105, 115, 116]⟩ (.agg #[.int .u8 0, .int .i64 0, .int .i64 0]) (by decide)
  have HX : Hid (Below w.heap.size w W12) := Lib.hid (by
    have h0 : Below w.heap.size w (w.alloc (.map #[] 0)) := (Below.refl _ _).alloc (Nat.le_refl _) _
    have h1 : Exc w.heap.size w.heap.size (w.alloc (.map #[] 0)) W12 := (((((((((((x1 _).trans (x2 _)).trans (x3 _)).trans (x4 _)).trans (x5 _)).trans (x6 _)).trans (x7 _)).trans (x8 _)).trans (x9 _)).trans (x10 _)).trans (x11 _)).trans (x12 _)
    exact h0.trans (h1.below (Nat.le_refl _)))
  have HM := Lib.hid m12
  clear x1 x2 x3 x4 x5 x6 x7 x8 x9 x10 x11 x12 m1 m2 m3 m4 m5 m6 m7 m8 m9 m10 m11 m12
  go_enter Tryz.func60, Tryz.ntmps60
  go_wp2
  go_ret
  exact ⟨_, rfl, HM.out, HX.out, Nat.le_refl _⟩
end Go.Proofs.YtdlfndjgncdgfaaGreatDoor
namespace Go.Proofs.YtdlfndjgncdgfaaGreatDoor
open Go.ChangeShapes Go.WideShapes Go.ChangeAt Go.RowKit

theorem arr_litEn (t : Array Value) (h : t.size = 90) : t = ((List.range 90).map fun n => t.getD n undef).toArray := by
  apply Array.ext'
  apply List.ext_getElem?
  intro i
  by_cases hi : i < 90
  · have h' : i < t.size := by omega
    simp [hi, h', Array.getD]
  · have h' : ¬ i < t.size := by omega
    simp [hi, h']
set_option maxRecDepth 100000 in
theorem lit_allEn (u : Nat → Value) : ((List.range 90).map u).toArray = #[u 0, u 1, u 2, u 3, u 4, u 5, u 6, u 7, u 8, u 9, u 10, u 11, u 12, u 13, u 14, u 15, u 16, u 17, u 18, u 19, u 20, u 21, u 22, u 23, u 24, u 25, u 26, u 27, u 28, u 29, u 30, u 31, u 32, u 33, u 34, u 35, u 36, u 37, u 38, u 39, u 40, u 41, u 42, u 43, u 44, u 45, u 46, u 47, u 48, u 49, u 50, u 51, u 52, u 53, u 54, u 55, u 56, u 57, u 58, u 59, u 60, u 61, u 62, u 63, u 64, u 65, u 66, u 67, u 68, u 69, u 70, u 71, u 72, u 73, u 74, u 75, u 76, u 77, u 78, u 79, u 80, u 81, u 82, u 83, u 84, u 85, u 86, u 87, u 88, u 89] := rfl
noncomputable def loopsEn (n : Nat) : Code := ((Tryz.f61.body.map loopsOf).getD []).getD n .skip
structure EnFr (M R T : Nat) (a : Option Addr) (n e k : Nat) (b : Option Addr) (m f j : Nat) (c : Act) : Prop where
  df : c.defers = []
  sz : c.tmps.size = 90
  s0 : c.tmps.getD 0 undef = .pointer (some ⟨M, 0, none⟩)
  s2 : c.tmps.getD 2 undef = .pointer (some ⟨R, 0, none⟩)
  s8 : c.tmps.getD 8 undef = .pointer (some ⟨T, 0, none⟩)
  s15 : c.tmps.getD 15 undef = .slice a n e
  s16 : c.tmps.getD 16 undef = .int .i64 n
  s17 : c.tmps.getD 17 undef = .int .i64 k
  s61 : c.tmps.getD 61 undef = .slice b m f
  s62 : c.tmps.getD 62 undef = .int .i64 m
  s63 : c.tmps.getD 63 undef = .int .i64 j
set_option maxRecDepth 100000 in
theorem EnFr.lit {M R T : Nat} {a : Option Addr} {n e k : Nat} {b : Option Addr} {m f j : Nat} {c : Act} (h : EnFr M R T a n e k b m f j c) : ∃ u : Nat → Value, c = ⟨#[.pointer (some ⟨M, 0, none⟩), u 1, .pointer (some ⟨R, 0, none⟩), u 3, u 4, u 5, u 6, u 7, .pointer (some ⟨T, 0, none⟩), u 9, u 10, u 11, u 12, u 13, u 14, .slice a n e, .int .i64 n, .int .i64 k, u 18, u 19, u 20, u 21, u 22, u 23, u 24, u 25, u 26, u 27, u 28, u 29, u 30, u 31, u 32, u 33, u 34, u 35, u 36, u 37, u 38, u 39, u 40, u 41, u 42, u 43, u 44, u 45, u 46, u 47, u 48, u 49, u 50, u 51, u 52, u 53, u 54, u 55, u 56, u 57, u 58, u 59, u 60, .slice b m f, .int .i64 m, .int .i64 j, u 64, u 65, u 66, u 67, u 68, u 69, u 70, u 71, u 72, u 73, u 74, u 75, u 76, u 77, u 78, u 79, u 80, u 81, u 82, u 83, u 84, u 85, u 86, u 87, u 88, u 89], []⟩ := by
  obtain ⟨hd, hs, h0, h2, h8, h15, h16, h17, h61, h62, h63⟩ := h
  refine ⟨fun n => c.tmps.getD n undef, ?_⟩
  obtain ⟨t, d⟩ := c
  simp only at hd hs h0 h2 h8 h15 h16 h17 h61 h62 h63 ⊢
  subst hd
  congr 1
  refine (arr_litEn t hs).trans ?_
  rw [lit_allEn]
  simp only [h0, h2, h8, h15, h16, h17, h61, h62, h63]
structure EnO (M R : Nat) (a : Option Addr) (n e k : Nat) (c : Act) : Prop where
  df : c.defers = []
  sz : c.tmps.size = 90
  s0 : c.tmps.getD 0 undef = .pointer (some ⟨M, 0, none⟩)
  s2 : c.tmps.getD 2 undef = .pointer (some ⟨R, 0, none⟩)
  s15 : c.tmps.getD 15 undef = .slice a n e
  s16 : c.tmps.getD 16 undef = .int .i64 n
  s17 : c.tmps.getD 17 undef = .int .i64 k
set_option maxRecDepth 100000 in
theorem EnO.lit {M R : Nat} {a : Option Addr} {n e k : Nat} {c : Act} (h : EnO M R a n e k c) : ∃ u : Nat → Value, c = ⟨#[.pointer (some ⟨M, 0, none⟩), u 1, .pointer (some ⟨R, 0, none⟩), u 3, u 4, u 5, u 6, u 7, u 8, u 9, u 10, u 11, u 12, u 13, u 14, .slice a n e, .int .i64 n, .int .i64 k, u 18, u 19, u 20, u 21, u 22, u 23, u 24, u 25, u 26, u 27, u 28, u 29, u 30, u 31, u 32, u 33, u 34, u 35, u 36, u 37, u 38, u 39, u 40, u 41, u 42, u 43, u 44, u 45, u 46, u 47, u 48, u 49, u 50, u 51, u 52, u 53, u 54, u 55, u 56, u 57, u 58, u 59, u 60, u 61, u 62, u 63, u 64, u 65, u 66, u 67, u 68, u 69, u 70, u 71, u 72, u 73, u 74, u 75, u 76, u 77, u 78, u 79, u 80, u 81, u 82, u 83, u 84, u 85, u 86, u 87, u 88, u 89], []⟩ := by
  obtain ⟨hd, hs, h0, h2, h15, h16, h17⟩ := h
  refine ⟨fun n => c.tmps.getD n undef, ?_⟩
  obtain ⟨t, d⟩ := c
  simp only at hd hs h0 h2 h15 h16 h17 ⊢
  subst hd
  congr 1
  refine (arr_litEn t hs).trans ?_
  rw [lit_allEn]
  simp only [h0, h2, h15, h16, h17]
end Go.Proofs.YtdlfndjgncdgfaaGreatDoor
