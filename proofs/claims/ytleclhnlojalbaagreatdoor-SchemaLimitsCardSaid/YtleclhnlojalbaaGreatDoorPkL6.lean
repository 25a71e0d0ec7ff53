/-
  The place behind blanks and remarks: the package lex's gap. Conditions: those that each theorem names.
-/
import Derived.Test.YtleclhnlojalbaaGreatDoorPkL1
import Derived.Test.YtleclhnlojalbaaGreatDoorPkL2
import Derived.Test.YtleclhnlojalbaaGreatDoorPkL3
import Derived.Test.YtleclhnlojalbaaGreatDoorRows
import Derived.WalkKit
import Derived.ProofKit
import Derived.OpenShut
import Derived.ShutString
import Derived.ChangeOld
import Derived.Below
import Derived.WalkLawsBesides
import Derived.WalkSpells
import Derived.Lib.Hide
import Derived.Outline
import Derived.Handy
import Derived.Laws.BytesArg
import Derived.Lib.SlBytesConst
namespace Go.Proofs.YtleclhnlojalbaaGreatDoor
open Go.ChangeShapes Go.WideShapes Go.ChangeAt Go.RowKit

def u8From (zs : List Int) : Nat → Nat → Int
  | 0, _ => -1
  | fuel + 1, i => if i < zs.length then (if (dec (zs.drop i)).1 = 65533 ∧ (dec (zs.drop i)).2 = 1 then (i : Int) else u8From zs fuel (i + (dec (zs.drop i)).2.toNat)) else -1
def u8At (zs : List Int) (i : Nat) : Int := u8From zs (zs.length + 1) i
theorem u8From_fuel (zs : List Int) : ∀ (f g i : Nat), zs.length < f + i → zs.length < g + i → u8From zs f i = u8From zs g i
  | 0, 0, _, _, _ => rfl
  | 0, g + 1, i, hf, _ => by simp only [u8From]; rw [if_neg (by omega)]
  | f + 1, 0, i, _, hg => by simp only [u8From]; rw [if_neg (by omega)]
  | f + 1, g + 1, i, hf, hg => by
    simp only [u8From]
    by_cases h : i < zs.length
    · have hw := dec_width (zs.drop i) (by simp; omega)
      rw [if_pos h, if_pos h, u8From_fuel zs f g (i + (dec (zs.drop i)).2.toNat) (by omega) (by omega)]
    · rw [if_neg h, if_neg h]
theorem u8At_end (zs : List Int) (i : Nat) (h : zs.length ≤ i) : u8At zs i = -1 := by
  unfold u8At u8From
  rw [if_neg (by omega)]
theorem u8At_bad (zs : List Int) (i : Nat) (h : i < zs.length) (h1 : (dec (zs.drop i)).1 = 65533) (h2 : (dec (zs.drop i)).2 = 1) : u8At zs i = i := by
  unfold u8At u8From
  rw [if_pos h, if_pos ⟨h1, h2⟩]
theorem u8At_good (zs : List Int) (i : Nat) (h : i < zs.length) (h1 : ¬ ((dec (zs.drop i)).1 = 65533 ∧ (dec (zs.drop i)).2 = 1)) : u8At zs i = u8At zs (i + (dec (zs.drop i)).2.toNat) := by
  have hw := dec_width (zs.drop i) (by simp; omega)
  conv => lhs; unfold u8At u8From
  rw [if_pos h, if_neg h1]
  exact u8From_fuel zs _ _ _ (by omega) (by omega)

def Bytes (w : World) (p : Option Addr) (zs : List Int) : Prop :=
  (∀ i, 0 ≤ zs.getD i 0 ∧ zs.getD i 0 ≤ 255) ∧ (zs ≠ [] → ∃ b off, p = some ⟨b, off, none⟩ ∧ b < w.heap.size ∧ ∀ i, i < zs.length → w.cell? ⟨b, off + i, none⟩ = some (.int .u8 (zs.getD i 0)))
theorem Bytes.below {w w' : World} {p : Option Addr} {zs : List Int} {B : Nat} (h : Bytes w p zs) (hB : w.heap.size ≤ B) (hb : Below B w w') : Bytes w' p zs := by
  refine ⟨h.1, fun hne => ?_⟩
  obtain ⟨b, off, rfl, hlt, hc⟩ := h.2 hne
  exact ⟨b, off, rfl, Nat.lt_of_lt_of_le hlt hb.size, fun i hi => (hb.cell (p := ⟨b, off + i, none⟩) (Nat.lt_of_lt_of_le hlt hB)).trans (hc i hi)⟩
theorem dec_at (zs : List Int) (i : Nat) (b off cap : Nat) (w : World) (hT : Tabs w) (hc : ∀ i, i < zs.length → w.cell? ⟨b, off + i, none⟩ = some (.int .u8 (zs.getD i 0))) (hb : ∀ i, 0 ≤ zs.getD i 0 ∧ zs.getD i 0 ≤ 255) :
    Calls Tryz.prog 153 #[.slice (some ⟨b, off + i, none⟩) (zs.length - i) cap] w fun e w' => e = .returned (.tuple #[.int .i32 (dec (zs.drop i)).1, .int .i64 (dec (zs.drop i)).2]) ∧ Below w.heap.size w w' := by
  have h := dec_any (zs.drop i) b (off + i) cap w hT (fun j hj => by
    have := hc (i + j) (by simp at hj; omega)
    rw [Nat.add_assoc, this]
    simp [List.getD]) (fun j => by
    have := hb (i + j)
    simpa [List.getD] using this)
  simp only [List.length_drop] at h
  exact h

theorem wutf8_some (b off cap : Nat) (zs : List Int) (w : World) (hT : Tabs w) (hb : ∀ i, 0 ≤ zs.getD i 0 ∧ zs.getD i 0 ≤ 255) (hlt : zs ≠ [] → b < w.heap.size) (hc : ∀ i, i < zs.length → w.cell? ⟨b, off + i, none⟩ = some (.int .u8 (zs.getD i 0)))
    (hl : (zs.length : Int) ≤ 9223372036854775800) (hcap : zs.length ≤ cap) :
    Calls Tryz.prog 144 #[.slice (some ⟨b, off, none⟩) zs.length cap] w fun e w' => e = .returned (.int .i64 (u8At zs 0)) ∧ Below w.heap.size w w' := by
  obtain ⟨n, hn⟩ : ∃ n, n = zs.length := ⟨_, rfl⟩
  have HN := Lib.hid hn
  have HP := Lib.hid hc
  have HB := Lib.hid hb
  have HL := Lib.hid hlt
  have HT := Lib.hid hT
  rw [← hn] at hl hcap ⊢
  clear hc hb hn hlt hT
  go_enter Tryz.func144, Tryz.ntmps144
  go_wp2
  go_loopw [3, 9] (fun x i wr => Below w.heap.size w wr ∧ ∃ k j : Nat, k ≤ j ∧ j ≤ n ∧ i = .int .i64 k ∧ x = .int .i64 j ∧ u8At zs 0 = u8At zs j) (fun _ i _ => n - (intOf i).toNat)
  case atStart => exact ⟨Below.refl _ _, 0, 0, Nat.le_refl _, Nat.zero_le _, rfl, rfl, rfl⟩
  case round =>
    obtain ⟨hbel, k, j, hkj, hjn, rfl, rfl, hans⟩ := hrel
    have HA := Lib.hid hans
    clear hans
    by_cases hlt : k < n
    · by_cases hkj' : k < j
      · go_wp2
        go_roundw
        case rel => exact ⟨hbel, k + 1, j, by omega, hjn, by go_num, rfl, HA.out⟩
        case measure => simp [intOf]; omega
      · obtain rfl : k = j := by omega
        have hk : k < zs.length := by rw [← HN.out]; exact hlt
        have hw := dec_width (zs.drop k) (by simp; omega)
        have hbs : b < w.heap.size := HL.out (by intro h; rw [h] at hk; simp at hk)
        have D := dec_at zs k b off (cap - k) _ (HT.out.below (Nat.le_refl _) hbel) (fun i hi => (hbel.cell (p := ⟨b, off + i, none⟩) hbs).trans (HP.out i hi)) HB.out
        rw [← HN.out] at D
        have hbad := u8At_bad zs k hk
        have hgood := u8At_good zs k hk
        have hw3 : (dec (zs.drop k)).2 ≤ n - k := by have h2 := hw.2.2; have h3 := HN.out; simp at h2; omega
        clear hk hbs
        generalize (dec (zs.drop k)).1 = R at D hbad hgood hw hw3
        generalize (dec (zs.drop k)).2 = K at D hbad hgood hw hw3
        obtain ⟨hw1, hw2, _⟩ := hw
        by_cases hx : R = 65533 ∧ K = 1
        · have E := Lib.hid (hbad hx.1 hx.2)
          have t1 : (R == 65533) = true := by simp [hx.1]
          have t2 : (K == 1) = true := by simp [hx.2]
          have HD := Lib.hid D
          clear hbad hgood hx D
          go_wp2_with (go_at_call 153; refine HD.out.mono ?_; rintro e w1 ⟨rfl, hb1⟩)
          go_ret
          exact ⟨ret_int (by rw [HA.out, E.out]), hbel.trans (hb1.mono hbel.size)⟩
        · have E := Lib.hid (hgood hx)
          have HD := Lib.hid D
          have HA2 : Hid (u8At zs 0 = u8At zs (k + K.toNat)) := HA.out.trans E.out
          clear hbad hgood D E HA
          by_cases hr : R = 65533
          · have t1 : (R == 65533) = true := by simp [hr]
            have t2 : (K == 1) = false := by simp; exact fun h => hx ⟨hr, h⟩
            clear hx hr
            go_wp2_with (go_at_call 153; refine HD.out.mono ?_; rintro e w1 ⟨rfl, hb1⟩)
            go_roundw
            case rel => exact ⟨hbel.trans (hb1.mono hbel.size), k + 1, k + K.toNat, by omega, by omega, by go_num, by rw [show ((k + K.toNat : Nat) : Int) = k + K from by omega], HA2.out⟩
            case measure => simp [intOf]; omega
          · have t1 : (R == 65533) = false := by simp [hr]
            clear hx hr
            go_wp2_with (go_at_call 153; refine HD.out.mono ?_; rintro e w1 ⟨rfl, hb1⟩)
            go_roundw
            case rel => exact ⟨hbel.trans (hb1.mono hbel.size), k + 1, k + K.toNat, by omega, by omega, by go_num, by rw [show ((k + K.toNat : Nat) : Int) = k + K from by omega], HA2.out⟩
            case measure => simp [intOf]; omega
    · go_wp2
      go_ret
      have hj : j = n := by omega
      exact ⟨ret_int (by rw [HA.out, u8At_end _ _ (by rw [hj, HN.out]; exact Nat.le_refl _)]), hbel⟩
theorem rutf8_some (b off cap : Nat) (zs : List Int) (w : World) (hT : Tabs w) (hb : ∀ i, 0 ≤ zs.getD i 0 ∧ zs.getD i 0 ≤ 255) (hlt : zs ≠ [] → b < w.heap.size) (hc : ∀ i, i < zs.length → w.cell? ⟨b, off + i, none⟩ = some (.int .u8 (zs.getD i 0)))
    (hl : (zs.length : Int) ≤ 9223372036854775800) (hcap : zs.length ≤ cap) :
    Calls Tryz.prog 134 #[.slice (some ⟨b, off, none⟩) zs.length cap] w fun e w' => e = .returned (.int .i64 (u8At zs 0)) ∧ Below w.heap.size w w' := by
  obtain ⟨n, hn⟩ : ∃ n, n = zs.length := ⟨_, rfl⟩
  have HN := Lib.hid hn
  have HP := Lib.hid hc
  have HB := Lib.hid hb
  have HL := Lib.hid hlt
  have HT := Lib.hid hT
  rw [← hn] at hl hcap ⊢
  clear hc hb hn hlt hT
  go_enter Tryz.func134, Tryz.ntmps134
  go_wp2
  go_loopw [3] (fun i wr => Below w.heap.size w wr ∧ ∃ k : Nat, k ≤ n ∧ i = .int .i64 k ∧ u8At zs 0 = u8At zs k) (fun i _ => n - (intOf i).toNat)
  case atStart => exact ⟨Below.refl _ _, 0, Nat.zero_le _, rfl, rfl⟩
  case round =>
    obtain ⟨hbel, k, hkn, rfl, hans⟩ := hrel
    have HA := Lib.hid hans
    clear hans
    by_cases hlt : k < n
    · have hk : k < zs.length := by rw [← HN.out]; exact hlt
      have hw := dec_width (zs.drop k) (by simp; omega)
      have hbs : b < w.heap.size := HL.out (by intro h; rw [h] at hk; simp at hk)
      have D := dec_at zs k b off (cap - k) _ (HT.out.below (Nat.le_refl _) hbel) (fun i hi => (hbel.cell (p := ⟨b, off + i, none⟩) hbs).trans (HP.out i hi)) HB.out
      rw [← HN.out] at D
      have hbad := u8At_bad zs k hk
      have hgood := u8At_good zs k hk
      have hw3 : (dec (zs.drop k)).2 ≤ n - k := by have h2 := hw.2.2; have h3 := HN.out; simp at h2; omega
      clear hk hbs
      generalize (dec (zs.drop k)).1 = R at D hbad hgood hw hw3
      generalize (dec (zs.drop k)).2 = K at D hbad hgood hw hw3
      obtain ⟨hw1, hw2, _⟩ := hw
      by_cases hx : R = 65533 ∧ K = 1
      · have E := Lib.hid (hbad hx.1 hx.2)
        have t1 : (R == 65533) = true := by simp [hx.1]
        have t2 : K ≤ 1 := by omega
        have HD := Lib.hid D
        clear hbad hgood hx D
        go_wp2_with (go_at_call 153; refine HD.out.mono ?_; rintro e w1 ⟨rfl, hb1⟩)
        go_ret
        exact ⟨ret_int (by rw [HA.out, E.out]), hbel.trans (hb1.mono hbel.size)⟩
      · have E := Lib.hid (hgood hx)
        have HD := Lib.hid D
        have HA2 : Hid (u8At zs 0 = u8At zs (k + K.toNat)) := HA.out.trans E.out
        clear hbad hgood D E HA
        by_cases hr : R = 65533
        · have t1 : (R == 65533) = true := by simp [hr]
          have t2 : ¬ K ≤ 1 := fun h => hx ⟨hr, by omega⟩
          clear hx hr
          go_wp2_with (go_at_call 153; refine HD.out.mono ?_; rintro e w1 ⟨rfl, hb1⟩)
          go_roundw
          case rel => exact ⟨hbel.trans (hb1.mono hbel.size), k + K.toNat, by omega, by rw [show ((k + K.toNat : Nat) : Int) = k + K from by omega], HA2.out⟩
          case measure => simp [intOf]; omega
        · have t1 : (R == 65533) = false := by simp [hr]
          clear hx hr
          go_wp2_with (go_at_call 153; refine HD.out.mono ?_; rintro e w1 ⟨rfl, hb1⟩)
          go_roundw
          case rel => exact ⟨hbel.trans (hb1.mono hbel.size), k + K.toNat, by omega, by rw [show ((k + K.toNat : Nat) : Int) = k + K from by omega], HA2.out⟩
          case measure => simp [intOf]; omega
    · go_wp2
      go_ret
      have hj : k = n := by omega
      exact ⟨ret_int (by rw [HA.out, u8At_end _ _ (by rw [hj, HN.out]; exact Nat.le_refl _)]), hbel⟩
theorem rutf8_none (p : Option Addr) (cap : Nat) (w : World) :
    Calls Tryz.prog 134 #[.slice p 0 cap] w fun e w' => e = .returned (.int .i64 (-1)) ∧ w = w' := by
  go_enter Tryz.func134, Tryz.ntmps134
  go_wp2
  go_loop [3] (fun i => i = .int .i64 0) (fun _ => 0)
  case atStart => rfl
  case round =>
    subst hrel
    go_wp2
    go_ret
    exact ⟨rfl, rfl⟩
theorem rutf8_any (p : Option Addr) (cap : Nat) (zs : List Int) (w : World) (hT : Tabs w) (hz : Bytes w p zs) (hl : (zs.length : Int) ≤ 9223372036854775800) (hcap : zs.length ≤ cap) :
    Calls Tryz.prog 134 #[.slice p zs.length cap] w fun e w' => e = .returned (.int .i64 (u8At zs 0)) ∧ Below w.heap.size w w' := by
  by_cases hne : zs = []
  · subst hne
    exact (rutf8_none p cap w).mono fun e w' h => ⟨h.1, by rw [← h.2]; exact Below.refl _ _⟩
  · obtain ⟨b, off, rfl, hlt, hc⟩ := hz.2 hne
    exact rutf8_some b off cap zs w hT hz.1 (fun _ => hlt) hc hl hcap
theorem rutf8_call (a : Option Addr) (cap n : Nat) (zs : List Int) (w : World) (hT : Tabs w) (hz : Bytes w a zs) (hn : zs.length = n) (hl : (n : Int) ≤ 9223372036854775800) (hcap : n ≤ cap) :
    Calls Tryz.prog 134 #[.slice a n cap] w fun e w' => e = .returned (.int .i64 (u8At zs 0)) ∧ Below w.heap.size w w' := by
  subst hn
  exact rutf8_any _ cap zs w hT hz hl hcap
theorem wutf8_off (b off cap n : Nat) (zs : List Int) (w : World) (hT : Tabs w) (hb : ∀ i, 0 ≤ zs.getD i 0 ∧ zs.getD i 0 ≤ 255) (hlt : b < w.heap.size) (hc : ∀ i, i < zs.length → w.cell? ⟨b, off + i, none⟩ = some (.int .u8 (zs.getD i 0))) (hn : zs.length = n)
    (hl : (n : Int) ≤ 9223372036854775800) (hcap : n ≤ cap) :
    Calls Tryz.prog 144 #[.slice (some ⟨b, off, none⟩) n cap] w fun e w' => e = .returned (.int .i64 (u8At zs 0)) ∧ Below w.heap.size w w' := by
  subst hn
  exact wutf8_some b off cap zs w hT hb (fun _ => hlt) hc hl hcap
end Go.Proofs.YtleclhnlojalbaaGreatDoor
namespace Go.Proofs.YtleclhnlojalbaaGreatDoor
open Go.ChangeShapes Go.WideShapes Go.ChangeAt Go.RowKit Go.Shelf

theorem stands_any (p : Option Addr) (n cap i : Nat) (x : Int) (zs : List Int) (v : Value) (k : Int → Bool) (w : World) (hx : x = i) (hz : Bytes w p zs) (hn : zs.length = n) (hk : KindV w v k) (_hl : n ≤ 281474976710656) :
    Calls Tryz.prog 114 #[.slice p n cap, .int .i64 x, v] w fun e w' => e = .returned (.bool (stA zs k i)) ∧ Below w.heap.size w w' := by
  subst hx
  by_cases hi : i < n
  · obtain ⟨g, lb, rfl, hk⟩ := hk
    obtain ⟨hbd, hp⟩ := hz
    obtain ⟨b, off, rfl, hlt, hc⟩ := hp (by rintro rfl; simp at hn; omega)
    have hci := hc i (by omega)
    have hb := hbd i
    have e1 := hk.enters
    have H := Lib.hid (hk.gives w (zs.getD i 0) hb.1 hb.2 (Below.refl _ _))
    rw [stA_of (by omega)]
    have hd : decide ((i : Int) < (n : Int)) = true := by simp; exact hi
    generalize zs.getD i 0 = z at hci H
    generalize k z = r at H ⊢
    clear hbd hp hb hk hc hn
    go_enter Tryz.func114, Tryz.ntmps114
    go_wp2_with fail
    refine H.out.mono ?_
    rintro e W1 ⟨rfl, hb⟩
    go_wp2
    go_ret
    exact ⟨rfl, hb⟩
  · have hd : decide ((i : Int) < (n : Int)) = false := by simp; omega
    rw [stA_ge (by omega)]
    clear hz hk hn
    go_enter Tryz.func114, Tryz.ntmps114
    go_wp2
    go_ret
    exact ⟨rfl, Below.refl _ _⟩
theorem run_any (p : Option Addr) (n cap i : Nat) (x : Int) (zs : List Int) (v : Value) (k : Int → Bool) (w : World) (hx : x = i) (hz : Bytes w p zs) (hn : zs.length = n) (hk : KindV w v k) (hl : n ≤ 281474976710656) (hi : i ≤ n) :
    Calls Tryz.prog 110 #[.slice p n cap, .int .i64 x, v] w fun e w' => e = .returned (.int .i64 (runTo zs k i : Nat)) ∧ Below w.heap.size w w' := by
  subst hx
  have HS := Lib.hid (fun j W hb => stands_any p n cap j j zs v k W rfl (Bytes.below hz (Nat.le_refl _) hb) hn (hk.later hb) hl)
  have HN := Lib.hid hn
  obtain ⟨g, lb, rfl, _⟩ := hk
  clear hz hn
  go_enter Tryz.func110, Tryz.ntmps110
  go_wp2
  go_loopw [1] (fun i' wr => Below w.heap.size w wr ∧ ∃ j : Nat, j ≤ n ∧ i' = .int .i64 j ∧ runTo zs k i = runTo zs k j) (fun i' _ => n - (intOf i').toNat)
  case atStart => exact ⟨Below.refl _ _, i, hi, rfl, rfl⟩
  case round =>
    obtain ⟨hb, j, hj, rfl, hr⟩ := hrel
    have HB := Lib.hid hb
    have HR := Lib.hid hr
    clear hb hr
    cases hs : stA zs k j
    · have S := HS.out j _ HB.out
      rw [hs] at S
      have HS1 := Lib.hid S
      have HE := Lib.hid (runTo_stop hs)
      clear S hs
      go_wp2_with fail
      refine HS1.out.mono ?_
      rintro e W1 ⟨rfl, hb1⟩
      go_wp2
      go_ret
      exact ⟨ret_int (by rw [HR.out, HE.out]), HB.out.trans (hb1.mono HB.out.size)⟩
    · have S := HS.out j _ HB.out
      rw [hs] at S
      have HS1 := Lib.hid S
      have HE := Lib.hid (runTo_step hs)
      have hlt := stA_lt hs
      rw [HN.out] at hlt
      clear S hs
      go_wp2_with fail
      refine HS1.out.mono ?_
      rintro e W1 ⟨rfl, hb1⟩
      go_wp2
      go_roundw
      case rel => exact ⟨HB.out.trans (hb1.mono HB.out.size), j + 1, by omega, by go_num, by rw [HR.out, HE.out]⟩
      case measure => simp [intOf]; omega
end Go.Proofs.YtleclhnlojalbaaGreatDoor
namespace Go.Proofs.YtleclhnlojalbaaGreatDoor
open Go.ChangeShapes Go.WideShapes Go.ChangeAt Go.RowKit Go.Shelf

theorem begins_any (p : Option Addr) (n cap i : Nat) (x : Int) (zs : List Int) (w : World) (hx : x = i) (hz : Bytes w p zs) (hn : zs.length = n) (hl : n ≤ 281474976710656) (hi : i ≤ n) :
    Calls Tryz.prog 118 #[.slice p n cap, .int .i64 x] w fun e w' => e = .returned (.bool (begins zs i)) ∧ Below w.heap.size w w' := by
  subst hx
  have HR := Lib.hid (fun (j : Nat) (y : Int) v k W hy hb hk => stands_any p n cap j y zs v k W hy (Bytes.below hz (Nat.le_refl _) hb) hn hk hl)
  have HE : Hid (begins zs i = (stA zs isDig i || (stA zs (isC 45) i && stA zs isDig (i + 1)))) := rfl
  generalize begins zs i = r at HE ⊢
  clear hz hn
  cases h1 : stA zs isDig i
  · cases h2 : stA zs (isC 45) i
    · rw [h1, h2] at HE
      have H1 := Lib.hid h1
      have H2 := Lib.hid h2
      clear h1 h2
      go_enter Tryz.func118, Tryz.ntmps118
      go_wp2_with fail
      refine (digit_any _).mono ?_
      rintro e W1 ⟨v1, rfl, hb1, hk1⟩
      have HK1 := Lib.hid hk1
      have HB1 := Lib.hid hb1
      clear hk1 hb1
      go_wp2_with fail
      refine (HR.out i _ v1 isDig W1 rfl HB1.out HK1.out).mono ?_
      rintro e W2 ⟨rfl, hb2⟩
      have HB2 := Lib.hid (HB1.out.trans (hb2.mono HB1.out.size))
      clear hb2
      rw [H1.out]
      go_wp2_with fail
      refine (minus_any _).mono ?_
      rintro e W3 ⟨v3, rfl, hb3, hk3⟩
      have HK3 := Lib.hid hk3
      have HB3 := Lib.hid (HB2.out.trans (hb3.mono HB2.out.size))
      clear hk3 hb3
      go_wp2_with fail
      refine (HR.out i _ v3 (isC 45) W3 rfl HB3.out HK3.out).mono ?_
      rintro e W4 ⟨rfl, hb4⟩
      have HB4 := Lib.hid (HB3.out.trans (hb4.mono HB3.out.size))
      clear hb4
      rw [H2.out]
      go_wp2
      go_ret
      exact ⟨ret_bool (by rw [HE.out]; rfl), HB4.out⟩
    · rw [h1, h2] at HE
      have H1 := Lib.hid h1
      have H2 := Lib.hid h2
      clear h1 h2
      go_enter Tryz.func118, Tryz.ntmps118
      go_wp2_with fail
      refine (digit_any _).mono ?_
      rintro e W1 ⟨v1, rfl, hb1, hk1⟩
      have HK1 := Lib.hid hk1
      have HB1 := Lib.hid hb1
      clear hk1 hb1
      go_wp2_with fail
      refine (HR.out i _ v1 isDig W1 rfl HB1.out HK1.out).mono ?_
      rintro e W2 ⟨rfl, hb2⟩
      have HB2 := Lib.hid (HB1.out.trans (hb2.mono HB1.out.size))
      clear hb2
      rw [H1.out]
      go_wp2_with fail
      refine (minus_any _).mono ?_
      rintro e W3 ⟨v3, rfl, hb3, hk3⟩
      have HK3 := Lib.hid hk3
      have HB3 := Lib.hid (HB2.out.trans (hb3.mono HB2.out.size))
      clear hk3 hb3
      go_wp2_with fail
      refine (HR.out i _ v3 (isC 45) W3 rfl HB3.out HK3.out).mono ?_
      rintro e W4 ⟨rfl, hb4⟩
      have HB4 := Lib.hid (HB3.out.trans (hb4.mono HB3.out.size))
      clear hb4
      rw [H2.out]
      go_wp2_with fail
      refine (digit_any _).mono ?_
      rintro e W5 ⟨v5, rfl, hb5, hk5⟩
      have HK5 := Lib.hid hk5
      have HB5 := Lib.hid (HB4.out.trans (hb5.mono HB4.out.size))
      clear hk5 hb5
      go_wp2_with fail
      refine (HR.out (i + 1) _ v5 isDig W5 (by omega) HB5.out HK5.out).mono ?_
      rintro e W6 ⟨rfl, hb6⟩
      have HB6 := Lib.hid (HB5.out.trans (hb6.mono HB5.out.size))
      clear hb6
      generalize stA zs isDig (i + 1) = r2 at HE ⊢
      go_wp2
      go_ret
      exact ⟨ret_bool (by rw [HE.out]; simp), HB6.out⟩
  · rw [h1] at HE
    have H1 := Lib.hid h1
    clear h1
    go_enter Tryz.func118, Tryz.ntmps118
    go_wp2_with fail
    refine (digit_any _).mono ?_
    rintro e W1 ⟨v1, rfl, hb1, hk1⟩
    have HK1 := Lib.hid hk1
    have HB1 := Lib.hid hb1
    clear hk1 hb1
    go_wp2_with fail
    refine (HR.out i _ v1 isDig W1 rfl HB1.out HK1.out).mono ?_
    rintro e W2 ⟨rfl, hb2⟩
    have HB2 := Lib.hid (HB1.out.trans (hb2.mono HB1.out.size))
    clear hb2
    rw [H1.out]
    go_wp2
    go_ret
    exact ⟨ret_bool (by rw [HE.out]; rfl), HB2.out⟩
def numVal (zs : List Int) (i : Nat) : Value := if numBad zs i = true then .tuple #[.int .i64 0, .bool false] else .tuple #[.int .i64 (numEnd zs i : Nat), .bool true]
theorem numVal_eq (zs : List Int) (i : Nat) : numVal zs i = if numBad zs i = true then .tuple #[.int .i64 0, .bool false] else .tuple #[.int .i64 (numEnd zs i : Nat), .bool true] := rfl
theorem numVal_bad {c : Bool} (E : Nat) (h : c = true) : (if c = true then Value.tuple #[.int .i64 0, .bool false] else .tuple #[.int .i64 (E : Nat), .bool true]) = .tuple #[.int .i64 0, .bool false] := if_pos h
theorem numVal_good {c : Bool} (E : Nat) (h : c = false) : (if c = true then Value.tuple #[.int .i64 0, .bool false] else .tuple #[.int .i64 (E : Nat), .bool true]) = .tuple #[.int .i64 (E : Nat), .bool true] := if_neg (by rw [h]; decide)
set_option maxHeartbeats 800000 in
theorem number_any (p : Option Addr) (n cap i : Nat) (x : Int) (zs : List Int) (w : World) (hx : x = i) (hz : Bytes w p zs) (hn : zs.length = n) (hl : n ≤ 281474976710656) (hi : i ≤ n) :
    Calls Tryz.prog 119 #[.slice p n cap, .int .i64 x] w fun e w' => e = .returned (numVal zs i) ∧ Below w.heap.size w w' := by
  subst hx
  have HR := Lib.hid (fun (j : Nat) (y : Int) v k W hy hb hk => stands_any p n cap j y zs v k W hy (Bytes.below hz (Nat.le_refl _) hb) hn hk hl)
  have HU := Lib.hid (fun (j : Nat) (y : Int) v k W hy hj hb hk => run_any p n cap j y zs v k W hy (Bytes.below hz (Nat.le_refl _) hb) hn hk hl hj)
  have HN := Lib.hid hn
  clear hz hn
  cases h0 : stA zs (isC 45) i
  · have hM : minusTo zs i = i := by unfold minusTo; rw [if_neg (by rw [h0]; decide)]
    have hE : numBad zs i = (decide (runTo zs isDig i - i = 0) || decide (20 < runTo zs isDig i - i) || stA zs isLet (runTo zs isDig i) || (stA zs (isC 48) i && (false || decide (1 < runTo zs isDig i - i)))) := by
      unfold numBad zeroAhead
      rw [hM, h0]
    have hN : numEnd zs i = runTo zs isDig i := by unfold numEnd; rw [hM]
    have hlo := runTo_ge zs isDig i
    have hup := runTo_le zs isDig i (by have := HN.out; omega)
    rw [HN.out] at hup
    have HV := Lib.hid (numVal_eq zs i)
    rw [hE, hN] at HV
    have H0 := Lib.hid h0
    clear hE hN hM h0
    go_enter Tryz.func119, Tryz.ntmps119
    go_wp2_with fail
    refine (minus_any _).mono ?_
    rintro e W1 ⟨v1, rfl, hb1, hk1⟩
    have HK1 := Lib.hid hk1
    have HB1 := Lib.hid hb1
    clear hk1 hb1
    go_wp2_with fail
    refine (HR.out i _ v1 (isC 45) W1 rfl HB1.out HK1.out).mono ?_
    rintro e W2 ⟨rfl, hb2⟩
    have HB2 := Lib.hid (HB1.out.trans (hb2.mono HB1.out.size))
    clear hb2
    rw [H0.out]
    go_wp2_with fail
    refine (digit_any _).mono ?_
    rintro e W3 ⟨v3, rfl, hb3, hk3⟩
    have HK3 := Lib.hid hk3
    have HB3 := Lib.hid (HB2.out.trans (hb3.mono HB2.out.size))
    clear hk3 hb3
    go_wp2_with fail
    refine (HU.out i _ v3 isDig W3 rfl (by omega) HB3.out HK3.out).mono ?_
    rintro e W4 ⟨rfl, hb4⟩
    have HB4 := Lib.hid (HB3.out.trans (hb4.mono HB3.out.size))
    clear hb4
    generalize runTo zs isDig i = E at hlo hup HV ⊢
    by_cases c0 : E - i = 0
    · have t0 : (((E : Int) - (i : Int)) == 0) = true := by simp; omega
      have HV' := Lib.hid (HV.out.trans (numVal_bad E (by simp [c0])))
      clear c0
      go_wp2
      go_ret2
      exact ⟨by rw [HV'.out]; rfl, HB4.out⟩
    have t0 : (((E : Int) - (i : Int)) == 0) = false := by simp; omega
    by_cases c1 : 20 < E - i
    · have HV' := Lib.hid (HV.out.trans (numVal_bad E (by simp [c1])))
      have t1 : decide (20 < (E : Int) - (i : Int)) = true := by simp; omega
      go_wp2
      go_ret2
      exact ⟨by rw [HV'.out]; rfl, HB4.out⟩
    have t1 : decide (20 < (E : Int) - (i : Int)) = false := by simp; omega
    have t1b : ¬ (20 < (E : Int) - (i : Int)) := by omega
    go_wp2_with fail
    refine (letter_any _).mono ?_
    rintro e W5 ⟨v5, rfl, hb5, hk5⟩
    have HK5 := Lib.hid hk5
    have HB5 := Lib.hid (HB4.out.trans (hb5.mono HB4.out.size))
    clear hk5 hb5
    go_wp2_with fail
    refine (HR.out E _ v5 isLet W5 rfl HB5.out HK5.out).mono ?_
    rintro e W6 ⟨rfl, hb6⟩
    have HB6 := Lib.hid (HB5.out.trans (hb6.mono HB5.out.size))
    clear hb6
    cases h1 : stA zs isLet E
    rotate_left
    · have HV' := Lib.hid (HV.out.trans (numVal_bad E (by simp [h1])))
      clear h1
      go_wp2
      go_ret2
      exact ⟨by rw [HV'.out]; rfl, HB6.out⟩
    have H1 := Lib.hid h1
    clear h1
    go_wp2_with fail
    refine (among_any ⟨#[48]⟩ _).mono ?_
    rintro e W7 ⟨v7, rfl, hb7, hk7⟩
    have HK7 : Hid (KindV W7 v7 (isC 48)) := hk7.congr fun c _ _ => by simp [amg, bts, isC]
    have HB7 := Lib.hid (HB6.out.trans (hb7.mono HB6.out.size))
    clear hk7 hb7
    go_wp2_with fail
    refine (HR.out i _ v7 (isC 48) W7 rfl HB7.out HK7.out).mono ?_
    rintro e W8 ⟨rfl, hb8⟩
    have HB8 := Lib.hid (HB7.out.trans (hb8.mono HB7.out.size))
    clear hb8
    cases h2 : stA zs (isC 48) i
    · have HV' := Lib.hid (HV.out.trans (numVal_good E (by rw [H1.out, h2, decide_eq_false c0, decide_eq_false c1]; rfl)))
      clear h2
      go_wp2
      go_ret2
      exact ⟨by rw [HV'.out]; rfl, HB8.out⟩
    · by_cases c2 : 1 < E - i
      · have HV' := Lib.hid (HV.out.trans (numVal_bad E (by simp [h2, c2])))
        have t2 : decide (1 < (E : Int) - i) = true := by simp; omega
        clear h2 c2
        go_wp2
        go_ret2
        exact ⟨by rw [HV'.out]; rfl, HB8.out⟩
      · have HV' := Lib.hid (HV.out.trans (numVal_good E (by rw [H1.out, h2, decide_eq_false c0, decide_eq_false c1, decide_eq_false c2]; rfl)))
        have t2 : decide (1 < (E : Int) - i) = false := by simp; omega
        clear h2 c2
        go_wp2
        go_ret2
        exact ⟨by rw [HV'.out]; rfl, HB8.out⟩
  · have hM : minusTo zs i = (i + 1) := by unfold minusTo; rw [if_pos (by rw [h0])]
    have hE : numBad zs i = (decide (runTo zs isDig (i + 1) - (i + 1) = 0) || decide (20 < runTo zs isDig (i + 1) - (i + 1)) || stA zs isLet (runTo zs isDig (i + 1)) || (stA zs (isC 48) (i + 1) && (true || decide (1 < runTo zs isDig (i + 1) - (i + 1))))) := by
      unfold numBad zeroAhead
      rw [hM, h0]
    have hN : numEnd zs i = runTo zs isDig (i + 1) := by unfold numEnd; rw [hM]
    have hlo := runTo_ge zs isDig (i + 1)
    have hup := runTo_le zs isDig (i + 1) (by have := stA_lt h0; omega)
    rw [HN.out] at hup
    have HV := Lib.hid (numVal_eq zs i)
    rw [hE, hN] at HV
    have H0 := Lib.hid h0
    clear hE hN hM h0
    go_enter Tryz.func119, Tryz.ntmps119
    go_wp2_with fail
    refine (minus_any _).mono ?_
    rintro e W1 ⟨v1, rfl, hb1, hk1⟩
    have HK1 := Lib.hid hk1
    have HB1 := Lib.hid hb1
    clear hk1 hb1
    go_wp2_with fail
    refine (HR.out i _ v1 (isC 45) W1 rfl HB1.out HK1.out).mono ?_
    rintro e W2 ⟨rfl, hb2⟩
    have HB2 := Lib.hid (HB1.out.trans (hb2.mono HB1.out.size))
    clear hb2
    rw [H0.out]
    go_wp2_with fail
    refine (digit_any _).mono ?_
    rintro e W3 ⟨v3, rfl, hb3, hk3⟩
    have HK3 := Lib.hid hk3
    have HB3 := Lib.hid (HB2.out.trans (hb3.mono HB2.out.size))
    clear hk3 hb3
    go_wp2_with fail
    refine (HU.out (i + 1) _ v3 isDig W3 (by omega) (by omega) HB3.out HK3.out).mono ?_
    rintro e W4 ⟨rfl, hb4⟩
    have HB4 := Lib.hid (HB3.out.trans (hb4.mono HB3.out.size))
    clear hb4
    generalize runTo zs isDig (i + 1) = E at hlo hup HV ⊢
    by_cases c0 : E - (i + 1) = 0
    · have t0 : (((E : Int) - ((i : Int) + 1)) == 0) = true := by simp; omega
      have HV' := Lib.hid (HV.out.trans (numVal_bad E (by simp [c0])))
      clear c0
      go_wp2
      go_ret2
      exact ⟨by rw [HV'.out]; rfl, HB4.out⟩
    have t0 : (((E : Int) - ((i : Int) + 1)) == 0) = false := by simp; omega
    by_cases c1 : 20 < E - (i + 1)
    · have HV' := Lib.hid (HV.out.trans (numVal_bad E (by simp [c1])))
      have t1 : decide (20 < (E : Int) - ((i : Int) + 1)) = true := by simp; omega
      go_wp2
      go_ret2
      exact ⟨by rw [HV'.out]; rfl, HB4.out⟩
    have t1 : decide (20 < (E : Int) - ((i : Int) + 1)) = false := by simp; omega
    have t1b : ¬ (20 < (E : Int) - ((i : Int) + 1)) := by omega
    go_wp2_with fail
    refine (letter_any _).mono ?_
    rintro e W5 ⟨v5, rfl, hb5, hk5⟩
    have HK5 := Lib.hid hk5
    have HB5 := Lib.hid (HB4.out.trans (hb5.mono HB4.out.size))
    clear hk5 hb5
    go_wp2_with fail
    refine (HR.out E _ v5 isLet W5 rfl HB5.out HK5.out).mono ?_
    rintro e W6 ⟨rfl, hb6⟩
    have HB6 := Lib.hid (HB5.out.trans (hb6.mono HB5.out.size))
    clear hb6
    cases h1 : stA zs isLet E
    rotate_left
    · have HV' := Lib.hid (HV.out.trans (numVal_bad E (by simp [h1])))
      clear h1
      go_wp2
      go_ret2
      exact ⟨by rw [HV'.out]; rfl, HB6.out⟩
    have H1 := Lib.hid h1
    clear h1
    go_wp2_with fail
    refine (among_any ⟨#[48]⟩ _).mono ?_
    rintro e W7 ⟨v7, rfl, hb7, hk7⟩
    have HK7 : Hid (KindV W7 v7 (isC 48)) := hk7.congr fun c _ _ => by simp [amg, bts, isC]
    have HB7 := Lib.hid (HB6.out.trans (hb7.mono HB6.out.size))
    clear hk7 hb7
    go_wp2_with fail
    refine (HR.out (i + 1) _ v7 (isC 48) W7 (by omega) HB7.out HK7.out).mono ?_
    rintro e W8 ⟨rfl, hb8⟩
    have HB8 := Lib.hid (HB7.out.trans (hb8.mono HB7.out.size))
    clear hb8
    cases h2 : stA zs (isC 48) (i + 1)
    · have HV' := Lib.hid (HV.out.trans (numVal_good E (by rw [H1.out, h2, decide_eq_false c0, decide_eq_false c1]; rfl)))
      clear h2
      go_wp2
      go_ret2
      exact ⟨by rw [HV'.out]; rfl, HB8.out⟩
    · have HV' := Lib.hid (HV.out.trans (numVal_bad E (by simp [h2])))
      clear h2
      go_wp2
      go_ret2
      exact ⟨by rw [HV'.out]; rfl, HB8.out⟩
end Go.Proofs.YtleclhnlojalbaaGreatDoor
namespace Go.Proofs.YtleclhnlojalbaaGreatDoor
open Go.ChangeShapes Go.WideShapes Go.ChangeAt Go.RowKit Go.Shelf

def okU (zs : List Int) : Bool := decide (u8At zs 0 < 0)
def quoVal (zs : List Int) (i : Nat) : Value := if quoBad okU zs i = true then .tuple #[.int .i64 0, .bool false] else .tuple #[.int .i64 (quoEnd zs i + 1 : Nat), .bool true]
theorem quoVal_eq (zs : List Int) (i : Nat) : quoVal zs i = if quoBad okU zs i = true then .tuple #[.int .i64 0, .bool false] else .tuple #[.int .i64 (quoEnd zs i + 1 : Nat), .bool true] := rfl
theorem sub_length (zs : List Int) (i j : Nat) (_h : i ≤ j) (h2 : j ≤ zs.length) : (sub zs i j).length = j - i := by
  unfold sub
  rw [List.length_take, List.length_drop]
  omega
theorem sub_get (zs : List Int) (i j k : Nat) (h : k < j - i) : (sub zs i j).getD k 0 = zs.getD (i + k) 0 := by
  unfold sub
  simp [List.getD, h]
theorem sub_bd {zs : List Int} (h : ∀ i, 0 ≤ zs.getD i 0 ∧ zs.getD i 0 ≤ 255) (i j : Nat) : ∀ k, 0 ≤ (sub zs i j).getD k 0 ∧ (sub zs i j).getD k 0 ≤ 255 := by
  intro k
  by_cases hk : k < j - i
  · rw [sub_get zs i j k hk]
    exact h _
  · have : (sub zs i j).getD k 0 = 0 := by
      unfold sub
      rw [List.getD, List.getElem?_eq_none (by rw [List.length_take]; omega)]
      rfl
    rw [this]
    omega
theorem sub_utf8 (b off c n i j m : Nat) (zs : List Int) (w : World) (hT : Tabs w) (hz : Bytes w (some ⟨b, off, none⟩) zs) (hn : zs.length = n) (hl : n ≤ 281474976710656) (hij : i ≤ j) (hj : j < n) (hm : m = j - i) (hc : m ≤ c) :
    Calls Tryz.prog 144 #[.slice (some ⟨b, off + i, none⟩) m c] w fun e w' => e = .returned (.int .i64 (u8At (sub zs i j) 0)) ∧ Below w.heap.size w w' := by
  obtain ⟨b', off', he, hlt, hcell⟩ := hz.2 (by rintro rfl; simp at hn; omega)
  cases he
  have hlen := sub_length zs i j hij (by omega)
  refine wutf8_off b (off + i) c m (sub zs i j) w hT (sub_bd hz.1 i j) hlt (fun k hk => ?_) (by omega) (by omega) hc
  rw [sub_get zs i j k (by omega), Nat.add_assoc]
  exact hcell (i + k) (by omega)
set_option maxHeartbeats 800000 in
theorem quoted_any (p : Option Addr) (n cap i : Nat) (x : Int) (zs : List Int) (w : World) (hx : x = i) (hT : Tabs w) (hz : Bytes w p zs) (hn : zs.length = n) (hl : n ≤ 281474976710656) (hi : i < n) (hcap : n ≤ cap) :
    Calls Tryz.prog 121 #[.slice p n cap, .int .i64 x] w fun e w' => e = .returned (quoVal zs i) ∧ Below w.heap.size w w' := by
  subst hx
  obtain ⟨b, off, rfl, _, _⟩ := hz.2 (by rintro rfl; simp at hn; omega)
  have HR := Lib.hid (fun (j : Nat) (y : Int) v k W hy hb hk => stands_any (some ⟨b, off, none⟩) n cap j y zs v k W hy (Bytes.below hz (Nat.le_refl _) hb) hn hk hl)
  have HU := Lib.hid (fun (j : Nat) (y : Int) v k W hy hj hb hk => run_any (some ⟨b, off, none⟩) n cap j y zs v k W hy (Bytes.below hz (Nat.le_refl _) hb) hn hk hl hj)
  have HQ := Lib.hid (fun c j m W hb hij hj hm hc => sub_utf8 b off c n (i + 1) j m zs W (Tabs.below hT (Nat.le_refl _) hb) (Bytes.below hz (Nat.le_refl _) hb) hn hl hij hj hm hc)
  have HN := Lib.hid hn
  have HV := Lib.hid (quoVal_eq zs i)
  have hlo := runTo_ge zs isPlain (i + 1)
  have hup := runTo_le zs isPlain (i + 1) (by omega)
  rw [show quoEnd zs i = runTo zs isPlain (i + 1) from rfl] at HV
  have HB0 : Hid (quoBad okU zs i = (!stA zs (isC 34) (runTo zs isPlain (i + 1)) || !okU (sub zs (i + 1) (runTo zs isPlain (i + 1))))) := rfl
  rw [HB0.out] at HV
  rw [HN.out] at hup
  clear hz hn hT HB0
  go_enter Tryz.func121, Tryz.ntmps121
  go_wp2_with fail
  refine (plain_any _).mono ?_
  rintro e W1 ⟨v1, rfl, hb1, hk1⟩
  have HK1 := Lib.hid hk1
  have HB1 := Lib.hid hb1
  clear hk1 hb1
  go_wp2_with fail
  refine (HU.out (i + 1) _ v1 isPlain W1 (by omega) (by omega) HB1.out HK1.out).mono ?_
  rintro e W2 ⟨rfl, hb2⟩
  have HB2 := Lib.hid (HB1.out.trans (hb2.mono HB1.out.size))
  clear hb2
  generalize runTo zs isPlain (i + 1) = E at hlo hup HV ⊢
  go_wp2_with fail
  refine (quote_any _).mono ?_
  rintro e W3 ⟨v3, rfl, hb3, hk3⟩
  have HK3 := Lib.hid hk3
  have HB3 := Lib.hid (HB2.out.trans (hb3.mono HB2.out.size))
  clear hk3 hb3
  go_wp2_with fail
  refine (HR.out E _ v3 (isC 34) W3 rfl HB3.out HK3.out).mono ?_
  rintro e W4 ⟨rfl, hb4⟩
  have HB4 := Lib.hid (HB3.out.trans (hb4.mono HB3.out.size))
  clear hb4
  cases h1 : stA zs (isC 34) E
  · have HV' := Lib.hid (HV.out.trans (if_pos (by rw [h1]; rfl)))
    clear h1
    go_wp2
    go_ret2
    exact ⟨by rw [HV'.out]; rfl, HB4.out⟩
  · have hlt := stA_lt h1
    rw [HN.out] at hlt
    have hE : ¬ cap = i + 1 := by omega
    have H1 := Lib.hid h1
    clear h1
    go_wp2_with fail
    refine (HQ.out _ E _ W4 HB4.out hlo hlt rfl (by omega)).mono ?_
    rintro e W5 ⟨rfl, hb5⟩
    have HB5 := Lib.hid (HB4.out.trans (hb5.mono HB4.out.size))
    clear hb5
    have HO : Hid (okU (sub zs (i + 1) E) = decide (u8At (sub zs (i + 1) E) 0 < 0)) := rfl
    generalize u8At (sub zs (i + 1) E) 0 = u at HO ⊢
    by_cases hu : u < 0
    · have HV' := Lib.hid (HV.out.trans (if_neg (by rw [H1.out, HO.out, decide_eq_true hu]; decide)))
      go_wp2
      go_ret2
      exact ⟨by rw [HV'.out]; rfl, HB5.out⟩
    · have HV' := Lib.hid (HV.out.trans (if_pos (by rw [H1.out, HO.out, decide_eq_false hu]; rfl)))
      go_wp2
      go_ret2
      exact ⟨by rw [HV'.out]; rfl, HB5.out⟩
end Go.Proofs.YtleclhnlojalbaaGreatDoor
namespace Go.Proofs.YtleclhnlojalbaaGreatDoor
open Go.ChangeShapes Go.WideShapes Go.ChangeAt Go.RowKit Go.Shelf
def tokVal : Option (Tok × Nat) → Value
  | none => .tuple #[.agg #[.int .i64 0, .string ByteArray.empty, .int .i64 0], .int .i64 0, .bool false]
  | some (t, e) => .tuple #[.agg #[.int .i64 t.kind, .string (strOfNums t.text), .int .i64 t.place], .int .i64 e, .bool true]
theorem sub_str (b off c n i j m t d : Nat) (zs : List Int) (w : World) (hz : Bytes w (some ⟨b, off, none⟩) zs) (hn : zs.length = n) (hij : i ≤ j) (hj : j ≤ n) (hi : i < n) (hm : m = j - i) (ht : t = 24) (hd : d = 9) :
    (convert t d (.slice (some ⟨b, off + i, none⟩) m c)).run Tryz.prog w = .ok (.string (strOfNums (sub zs i j))) w := by
  subst ht hd
  obtain ⟨b', off', he, hlt, hcell⟩ := hz.2 (by rintro rfl; simp at hn; omega)
  cases he
  refine run_convert_bytes_arg (P := Tryz.prog) w 24 5 Tryz.underlying24 Tryz.underlying5 b (off + i) m c (sub zs i j) (by rw [sub_length zs i j hij (by omega), hm]) (fun k hk => ?_) 9 Tryz.underlying9
  rw [sub_get zs i j k (by omega), Nat.add_assoc]
  exact hcell (i + k) (by omega)
def ResBlk (g : Nat) (W : World) : Prop := W.heap[g]? = some (.cells #[.int .i64 0, .string ⟨#[]⟩, .int .i64 0] 109 (0, 0))
theorem ResBlk.later {g : Nat} {W W' : World} (h : ResBlk g W) (hb : Below W.heap.size W W') : ResBlk g W' := by
  have hlt : g < W.heap.size := by
    rcases Nat.lt_or_ge g W.heap.size with h' | h'
    · exact h'
    · unfold ResBlk at h
      rw [Array.getElem?_eq_none h'] at h
      cases h
  exact (hb.block g hlt).trans h
theorem ResBlk.facts {g : Nat} {W : World} (h : ResBlk g W) : W.cell? ⟨g, 0, none⟩ = some (.int .i64 0) ∧ W.cell? ⟨g, 1, none⟩ = some (.string ⟨#[]⟩) ∧ W.cell? ⟨g, 2, none⟩ = some (.int .i64 0) ∧ W.frozen? ⟨g, 0, none⟩ = false ∧ W.frozen? ⟨g, 1, none⟩ = false ∧ W.frozen? ⟨g, 2, none⟩ = false := by
  refine ⟨?_, ?_, ?_, ?_, ?_, ?_⟩
  · rw [cell_of_row W g 0 _ _ (0, 0) h]; rfl
  · rw [cell_of_row W g 1 _ _ (0, 0) h]; rfl
  · rw [cell_of_row W g 2 _ _ (0, 0) h]; rfl
  · simp [World.frozen?, show W.heap[g]? = _ from h]
  · simp [World.frozen?, show W.heap[g]? = _ from h]
  · simp [World.frozen?, show W.heap[g]? = _ from h]
theorem resBlk_new (w : World) : ResBlk w.heap.size (w.alloc (.cells #[.int .i64 0, .string ⟨#[]⟩, .int .i64 0] 109)) := heap_alloc_new w _
set_option maxHeartbeats 800000 in
theorem token_end (p : Option Addr) (n cap i : Nat) (x : Int) (v : Value) (w : World) (hx : x = i) (hi : i = n) :
    Calls Tryz.prog 92 #[.slice p n cap, .int .i64 x, v] w fun e w' => e = .returned (tokVal (some (⟨0, [], i⟩, i))) ∧ Below w.heap.size w w' := by
  subst hx
  subst hi
  go_enter Tryz.func92, Tryz.ntmps92
  go_wp2
  exact bodyPost_ret (v := .tuple #[.agg #[.int .i64 0, .string ⟨#[]⟩, .int .i64 i], .int .i64 i, .bool true]) (by simp [results, Tryz.results92, go_sem]) rfl ⟨rfl, (Below.refl _ _).alloc (Nat.le_refl _) _⟩
set_option maxHeartbeats 800000 in
theorem token_name (b off n cap i : Nat) (x : Int) (v : Value) (zs : List Int) (w : World) (hx : x = i) (hz : Bytes w (some ⟨b, off, none⟩) zs) (hn : zs.length = n) (hl : n ≤ 281474976710656) (hi : i < n) (hcap : n ≤ cap) (h1 : stA zs isLet i = true) :
    Calls Tryz.prog 92 #[.slice (some ⟨b, off, none⟩) n cap, .int .i64 x, v] w fun e w' => e = .returned (tokVal (some (⟨1, sub zs i (runTo zs (fun c => isLet c || isDig c) i), i⟩, runTo zs (fun c => isLet c || isDig c) i))) ∧ Below w.heap.size w w' := by
  subst hx
  have HR := Lib.hid (fun (j : Nat) (y : Int) v k W hy hb hk => stands_any (some ⟨b, off, none⟩) n cap j y zs v k W hy (Bytes.below hz (Nat.le_refl _) hb) hn hk hl)
  have HU := Lib.hid (fun (j : Nat) (y : Int) v k W hy hj hb hk => run_any (some ⟨b, off, none⟩) n cap j y zs v k W hy (Bytes.below hz (Nat.le_refl _) hb) hn hk hl hj)
  have HS := Lib.hid (fun c j m t d W hb hij hj hm ht hd => sub_str b off c n i j m t d zs W (Bytes.below hz (Nat.le_refl _) hb) hn hij hj hi hm ht hd)
  have H1 := Lib.hid h1
  have hlo := runTo_ge zs (fun c => isLet c || isDig c) i
  have hup := runTo_le zs (fun c => isLet c || isDig c) i (by omega)
  rw [hn] at hup
  generalize hE : runTo zs (fun c => isLet c || isDig c) i = E at hlo hup ⊢
  have HE := Lib.hid hE
  clear hz hn h1 hE
  have t0 : ((i : Int) == (n : Int)) = false := by simp; omega
  go_enter Tryz.func92, Tryz.ntmps92
  go_wp2_with fail
  refine (letter_any _).mono ?_
  rintro e W1 ⟨v1, rfl, hb1, hk1⟩
  have HK1 := Lib.hid hk1
  have HG1 := Lib.hid ((resBlk_new w).later hb1)
  have HB1 := Lib.hid (((Below.refl _ _).alloc (Nat.le_refl _) _).trans (hb1.mono (by simp)))
  clear hk1 hb1
  go_wp2_with fail
  refine (HR.out i _ v1 isLet W1 rfl HB1.out HK1.out).mono ?_
  rintro e W2 ⟨rfl, hb2⟩
  have HG2 := Lib.hid (HG1.out.later hb2)
  have HB2 := Lib.hid (HB1.out.trans (hb2.mono HB1.out.size))
  clear hb2
  rw [H1.out]
  go_wp2_with fail
  refine (letter_any _).mono ?_
  rintro e W3 ⟨v3, rfl, hb3, hk3⟩
  have HK3 := Lib.hid hk3
  have HG3 := Lib.hid (HG2.out.later hb3)
  have HB3 := Lib.hid (HB2.out.trans (hb3.mono HB2.out.size))
  clear hk3 hb3
  go_wp2_with fail
  refine (digit_any _).mono ?_
  rintro e W4 ⟨v4, rfl, hb4, hk4⟩
  have HK4 := Lib.hid hk4
  have HK3' := Lib.hid (HK3.out.later hb4)
  have HG4 := Lib.hid (HG3.out.later hb4)
  have HB4 := Lib.hid (HB3.out.trans (hb4.mono HB3.out.size))
  clear hk4 hb4
  go_wp2_with fail
  refine (either_any v3 v4 _ _ _ HK3'.out HK4.out).mono ?_
  rintro e W5 ⟨v5, rfl, hb5, hk5⟩
  have HK5 := Lib.hid hk5
  have HG5 := Lib.hid (HG4.out.later hb5)
  have HB5 := Lib.hid (HB4.out.trans (hb5.mono HB4.out.size))
  clear hk5 hb5
  go_wp2_with fail
  refine (HU.out i _ v5 _ W5 rfl (by omega) HB5.out HK5.out).mono ?_
  rintro e W6 ⟨rfl, hb6⟩
  have HG6 := Lib.hid (HG5.out.later hb6)
  have HB6 := Lib.hid (HB5.out.trans (hb6.mono HB5.out.size))
  clear hb6
  rw [HE.out]
  have kc := HS.out (cap - i) E (E - i) 24 9 W6 HB6.out hlo hup rfl rfl rfl
  obtain ⟨g0, g1, g2, f0, f1, f2⟩ := HG6.out.facts
  have hci : ¬ cap = i := by omega
  go_wp2
  exact bodyPost_ret (v := .tuple #[.agg #[.int .i64 1, .string (strOfNums (sub zs i E)), .int .i64 i], .int .i64 E, .bool true]) (by simp [results, Tryz.results92, go_sem, g0, g1, g2]) rfl ⟨rfl, ((HB6.out.setCell (Nat.le_refl _) _).setCell (Nat.le_refl _) _).setCell (Nat.le_refl _) _⟩
end Go.Proofs.YtleclhnlojalbaaGreatDoor
namespace Go.Proofs.YtleclhnlojalbaaGreatDoor
open Go.ChangeShapes Go.WideShapes Go.ChangeAt Go.RowKit Go.Shelf

theorem slash2_prefix (zs : List Int) (hb : ∀ i, 0 ≤ zs.getD i 0 ∧ zs.getD i 0 ≤ 255) (j : Nat) : Lib.hasPrefix (Lib.bytesOf (zs.drop j)) (Lib.bytesOf [47, 47]) = slash2 zs j := by
  have key : ∀ x : Int, 0 ≤ x ∧ x ≤ 255 → ((47 : UInt8) == UInt8.ofNat x.toNat) = isC 47 x := by
    intro x hx
    unfold isC
    rw [Bool.eq_iff_iff, beq_iff_eq, decide_eq_true_iff, ← UInt8.toNat_inj]
    rw [UInt8.toNat_ofNat']
    simp
    omega
  unfold Lib.hasPrefix Lib.bytesOf
  by_cases h1 : j + 1 < zs.length
  · rw [drop_cons (show j < zs.length by omega), drop_cons h1]
    unfold slash2
    rw [stA_of (by omega), stA_of h1, ← key _ (hb j), ← key _ (hb (j + 1))]
    simp [List.isPrefixOf]
  · have e : slash2 zs j = false := by
      unfold slash2
      rw [stA_ge (i := j + 1) (by omega), Bool.and_false]
    rw [e]
    by_cases h2 : j < zs.length
    · rw [drop_cons h2, List.drop_eq_nil_of_le (by omega)]
      simp [List.isPrefixOf]
    · rw [List.drop_eq_nil_of_le (by omega)]
      rfl
theorem bytesIn_drop {w : World} {p : Option Addr} {zs : List Int} {n j : Nat} (hz : Bytes w p zs) (hn : zs.length = n) (_hj : j ≤ n) : Lib.BytesIn w (p.map (fun x => x.add j)) (n - j) (zs.drop j) := by
  intro h
  obtain ⟨b, off, rfl, _, hc⟩ := hz.2 (by rintro rfl; simp at hn; omega)
  refine ⟨b, off + j, ?_, fun i hi => ?_⟩
  · simp [add_plain]
  · rw [Nat.add_assoc, hc (j + i) (by omega)]
    simp [List.getD]
theorem two_cells (W : World) (G : Nat) (C : Array Value) (h : W.heap[G]? = some (.cells C 5 (2, 3))) (hC : C = #[.int .u8 47, .int .u8 47]) : Lib.BytesIn W (some ⟨G, 0, none⟩) 2 [47, 47] := by
  intro _
  refine ⟨G, 0, rfl, fun i hi => ?_⟩
  subst hC
  rw [cell_of_row W G (0 + i) _ 5 (2, 3) h]
  match i, hi with
  | 0, _ => rfl
  | 1, _ => rfl
set_option maxRecDepth 100000 in
theorem gap_any (p : Option Addr) (n cap i : Nat) (x : Int) (zs : List Int) (w : World) (hx : x = i) (hz : Bytes w p zs) (hn : zs.length = n) (hcap : n ≤ cap) (hl : n ≤ 281474976710656) (hi : i ≤ n) :
    Calls Tryz.prog 91 #[.slice p n cap, .int .i64 x] w fun e w' => e = .returned (.int .i64 (gap zs i : Nat)) ∧ Below w.heap.size w w' := by
  subst hx
  have HR := Lib.hid (fun j v k W hb hk hj => run_any p n cap j j zs v k W rfl (Bytes.below hz (Nat.le_refl _) hb) hn hk hl hj)
  have HN := Lib.hid hn
  have HZ := Lib.hid hz
  clear hz hn
  go_enter Tryz.func91, Tryz.ntmps91
  go_wp2_with fail
  refine (blank_any _).mono ?_
  rintro e W1 ⟨v1, rfl, hb1, hk1⟩
  have HK1 := Lib.hid hk1
  have HB1 := Lib.hid hb1
  clear hk1 hb1
  go_wp2_with fail
  refine (HR.out i v1 isBlank W1 HB1.out HK1.out hi).mono ?_
  rintro e W2 ⟨rfl, hb2⟩
  have HB2 := Lib.hid (HB1.out.trans (hb2.mono HB1.out.size))
  clear hb2 HB1 HK1
  have h0 := runTo_le zs isBlank i (by rw [HN.out]; exact hi)
  rw [HN.out] at h0
  have HG : Hid (gap zs i = gapF zs zs.length (runTo zs isBlank i)) := rfl
  generalize runTo zs isBlank i = j0 at h0 HG ⊢
  go_wp2
  go_loopw [1] (fun i' wr => Below w.heap.size w wr ∧ ∃ j : Nat, j ≤ n ∧ i' = .int .i64 j ∧ gap zs i = gapF zs zs.length j) (fun i' _ => n - (intOf i').toNat)
  case atStart => exact ⟨HB2.out, j0, h0, rfl, HG.out⟩
  case round =>
    clear HG HB2
    obtain ⟨hb, j, hj, rfl, hr⟩ := hrel
    have HB := Lib.hid hb
    have HJ := Lib.hid hr
    clear hb hr
    have kc := fun (w : World) (C : Array Value) (n c : Nat) => Lib.run_convert_bytes_const (P := Tryz.prog) w 24 5 C n c Tryz.underlying24 Tryz.underlying5
    have HX := Lib.hid (slash2_prefix zs HZ.out.1 j)
    have hnb := HN.out
    by_cases hc : cap = j
    · have ht : slash2 zs j = false := by
        unfold slash2
        rw [stA_ge (i := j) (by omega), Bool.false_and]
      have hjn : n ≤ j := by omega
      have HS := Lib.hid (gapF_stop zs.length ht)
      rw [ht] at HX
      clear ht hnb
      go_wp2_with fail
      refine (Tryz.bytes_HasPrefix_all p (some ⟨wr.heap.size, 0, none⟩) 0 0 2 2 (zs.drop j) [47, 47] _ (by have := HN.out; simp; omega) rfl (by omega) (Lib.BytesIn.nil _ p _) (two_cells _ _ _ (heap_alloc_new wr _) rfl)).mono ?_
      rintro e W3 ⟨rfl, rfl⟩
      rw [HX.out]
      go_wp2
      go_ret
      exact ⟨ret_int (by rw [HJ.out, HS.out]), HB.out.alloc HB.out.size _⟩
    · cases ht : slash2 zs j
      · have HS := Lib.hid (gapF_stop zs.length ht)
        rw [ht] at HX
        clear ht hnb
        go_wp2_with fail
        refine (Tryz.bytes_HasPrefix_all _ (some ⟨wr.heap.size, 0, none⟩) (n - j) (cap - j) 2 2 (zs.drop j) [47, 47] _ (by have := HN.out; simp; omega) rfl (by omega) (bytesIn_drop (HZ.out.below (Nat.le_refl _) (HB.out.alloc HB.out.size _)) HN.out hj) (two_cells _ _ _ (heap_alloc_new wr _) rfl)).mono ?_
        rintro e W3 ⟨rfl, rfl⟩
        rw [HX.out]
        go_wp2
        go_ret
        exact ⟨ret_int (by rw [HJ.out, HS.out]), HB.out.alloc HB.out.size _⟩
      · have hlt := slash2_lt ht
        have hgr := remark_grows ht
        have hr1 := runTo_le zs notLf j (by omega)
        have hr2 := runTo_le zs isBlank (runTo zs notLf j) hr1
        have HS := Lib.hid (gapF_step ht)
        rw [hnb] at hr1 hr2
        rw [ht] at HX
        clear ht hnb hlt
        go_wp2_with fail
        refine (Tryz.bytes_HasPrefix_all _ (some ⟨wr.heap.size, 0, none⟩) (n - j) (cap - j) 2 2 (zs.drop j) [47, 47] _ (by have := HN.out; simp; omega) rfl (by omega) (bytesIn_drop (HZ.out.below (Nat.le_refl _) (HB.out.alloc HB.out.size _)) HN.out hj) (two_cells _ _ _ (heap_alloc_new wr _) rfl)).mono ?_
        rintro e W3 ⟨rfl, hw⟩
        have HB3 : Hid (Below w.heap.size w W3) := by rw [hw]; exact HB.out.alloc HB.out.size _
        clear hw
        rw [HX.out]
        go_wp2_with fail
        refine (among_any ⟨#[10]⟩ _).mono ?_
        rintro e W4 ⟨v4, rfl, hb4, hk4⟩
        have HK4 := Lib.hid hk4
        have HB4 := Lib.hid (HB3.out.trans (hb4.mono HB3.out.size))
        clear hk4 hb4
        go_wp2_with fail
        refine (but_any v4 _ _ HK4.out).mono ?_
        rintro e W5 ⟨v5, rfl, hb5, hk5⟩
        have HK5 : Hid (KindV W5 v5 notLf) := hk5.congr fun c _ _ => by simp [amg, bts, notLf]
        have HB5 := Lib.hid (HB4.out.trans (hb5.mono HB4.out.size))
        clear hk5 hb5
        go_wp2_with fail
        refine (HR.out j v5 notLf W5 HB5.out HK5.out hj).mono ?_
        rintro e W6 ⟨rfl, hb6⟩
        have HB6 := Lib.hid (HB5.out.trans (hb6.mono HB5.out.size))
        clear hb6
        generalize runTo zs notLf j = j2 at hr1 hr2 hgr HS ⊢
        go_wp2_with fail
        refine (blank_any _).mono ?_
        rintro e W7 ⟨v7, rfl, hb7, hk7⟩
        have HK7 := Lib.hid hk7
        have HB7 := Lib.hid (HB6.out.trans (hb7.mono HB6.out.size))
        clear hk7 hb7
        go_wp2_with fail
        refine (HR.out j2 v7 isBlank W7 HB7.out HK7.out hr1).mono ?_
        rintro e W8 ⟨rfl, hb8⟩
        have HB8 := Lib.hid (HB7.out.trans (hb8.mono HB7.out.size))
        clear hb8
        generalize runTo zs isBlank j2 = j3 at hr2 hgr HS ⊢
        go_wp2
        go_roundw
        case rel => exact ⟨HB8.out, j3, hr2, rfl, by rw [HJ.out, HS.out]⟩
        case measure => simp [intOf]; omega
end Go.Proofs.YtleclhnlojalbaaGreatDoor
