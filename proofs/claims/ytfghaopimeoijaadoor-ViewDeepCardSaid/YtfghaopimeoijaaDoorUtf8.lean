/-
  Where bytes first begin no sign of UTF-8: the package wire's Utf8 and the document's own hand back one and the same number, that of a plain function of the bytes. Condition: the library's tables hold what the row lists.
-/
import Derived.Test.YtfghaopimeoijaaDoorHead
import Derived.Test.YtfghaopimeoijaaDoorDec
import Derived.Test.YtfghaopimeoijaaDoorByt
namespace Go.Proofs.YtfghaopimeoijaaDoor
open Go.ChangeShapes Go.WideShapes Go.ChangeAt Go.RowKit

/-- From place i on: the first place at which no sign begins; -1: there is none. -/
def u8From (zs : List Int) : Nat → Nat → Int
  | 0, _ => -1
  | fuel + 1, i => if i < zs.length then (if (dec (zs.drop i)).1 = 65533 ∧ (dec (zs.drop i)).2 = 1 then (i : Int) else u8From zs fuel (i + (dec (zs.drop i)).2.toNat)) else -1
def u8At (zs : List Int) (i : Nat) : Int := u8From zs (zs.length + 1) i
theorem u8From_fuel (zs : List Int) : ∀ (f g i : Nat), zs.length < f + i → zs.length < g + i → u8From zs f i = u8From zs g i
  | 0, 0, _, _, _ => rfl
  | 0, g + 1, i, hf, _ => by simp only [u8From]; rw [if_neg (by omega)]
  | f + 1, 0, i, _, hg => by simp only [u8From]; rw [if_neg (by omega)]
  | f + 1, g + 1, i, hf, hg => by
    simp only [u8From]
    by_cases h : i < zs.length
    · have hw := dec_width (zs.drop i) (by simp; omega)
      rw [if_pos h, if_pos h, u8From_fuel zs f g (i + (dec (zs.drop i)).2.toNat) (by omega) (by omega)]
    · rw [if_neg h, if_neg h]
theorem u8At_end (zs : List Int) (i : Nat) (h : zs.length ≤ i) : u8At zs i = -1 := by
  unfold u8At u8From
  rw [if_neg (by omega)]
theorem u8At_bad (zs : List Int) (i : Nat) (h : i < zs.length) (h1 : (dec (zs.drop i)).1 = 65533) (h2 : (dec (zs.drop i)).2 = 1) : u8At zs i = i := by
  unfold u8At u8From
  rw [if_pos h, if_pos ⟨h1, h2⟩]
theorem u8At_good (zs : List Int) (i : Nat) (h : i < zs.length) (h1 : ¬ ((dec (zs.drop i)).1 = 65533 ∧ (dec (zs.drop i)).2 = 1)) : u8At zs i = u8At zs (i + (dec (zs.drop i)).2.toNat) := by
  have hw := dec_width (zs.drop i) (by simp; omega)
  conv => lhs; unfold u8At u8From
  rw [if_pos h, if_neg h1]
  exact u8From_fuel zs _ _ _ (by omega) (by omega)

/-- The sign at place i. -/
theorem dec_at (zs : List Int) (i : Nat) (b off cap : Nat) (w : World) (hT : Tabs w) (hc : ∀ i, i < zs.length → w.cell? ⟨b, off + i, none⟩ = some (.int .u8 (zs.getD i 0))) (hb : ∀ i, 0 ≤ zs.getD i 0 ∧ zs.getD i 0 ≤ 255) :
    Calls Tryd.prog 54 #[.slice (some ⟨b, off + i, none⟩) (zs.length - i) cap] w fun e w' => e = .returned (.tuple #[.int .i32 (dec (zs.drop i)).1, .int .i64 (dec (zs.drop i)).2]) ∧ Below w.heap.size w w' := by
  have h := dec_any (zs.drop i) b (off + i) cap w hT (fun j hj => by
    have := hc (i + j) (by simp at hj; omega)
    rw [Nat.add_assoc, this]
    simp [List.getD]) (fun j => by
    have := hb (i + j)
    simpa [List.getD] using this)
  simp only [List.length_drop] at h
  exact h

theorem wutf8_some (b off cap : Nat) (zs : List Int) (w : World) (hT : Tabs w) (hb : ∀ i, 0 ≤ zs.getD i 0 ∧ zs.getD i 0 ≤ 255) (hlt : zs ≠ [] → b < w.heap.size) (hc : ∀ i, i < zs.length → w.cell? ⟨b, off + i, none⟩ = some (.int .u8 (zs.getD i 0)))
    (hl : (zs.length : Int) ≤ 9223372036854775807) (hcap : zs.length ≤ cap) :
    Calls Tryd.prog 41 #[.slice (some ⟨b, off, none⟩) zs.length cap] w fun e w' => e = .returned (.int .i64 (u8At zs 0)) ∧ Below w.heap.size w w' := by
  obtain ⟨n, hn⟩ : ∃ n, n = zs.length := ⟨_, rfl⟩
  have HN := Lib.hid hn
  have HP := Lib.hid hc
  have HB := Lib.hid hb
  have HL := Lib.hid hlt
  have HT := Lib.hid hT
  rw [← hn] at hl hcap ⊢
  clear hc hb hn hlt hT
  go_enter Tryd.func41, Tryd.ntmps41
  go_wp2
  go_loopw [3, 9] (fun x i wr => Below w.heap.size w wr ∧ ∃ k j : Nat, k ≤ j ∧ j ≤ n ∧ i = .int .i64 k ∧ x = .int .i64 j ∧ u8At zs 0 = u8At zs j) (fun _ i _ => n - (intOf i).toNat)
  case atStart => exact ⟨Below.refl _ _, 0, 0, Nat.le_refl _, Nat.zero_le _, rfl, rfl, rfl⟩
  case round =>
    obtain ⟨hbel, k, j, hkj, hjn, rfl, rfl, hans⟩ := hrel
    have HA := Lib.hid hans
    clear hans
    by_cases hlt : k < n
    · by_cases hkj' : k < j
      · go_wp2
        go_roundw
        case rel => exact ⟨hbel, k + 1, j, by omega, hjn, by go_num, rfl, HA.out⟩
        case measure => simp [intOf]; omega
      · obtain rfl : k = j := by omega
        have hk : k < zs.length := by rw [← HN.out]; exact hlt
        have hw := dec_width (zs.drop k) (by simp; omega)
        have hbs : b < w.heap.size := HL.out (by intro h; rw [h] at hk; simp at hk)
        have D := dec_at zs k b off (cap - k) _ (HT.out.below (Nat.le_refl _) hbel) (fun i hi => (hbel.cell (p := ⟨b, off + i, none⟩) hbs).trans (HP.out i hi)) HB.out
        rw [← HN.out] at D
        have hbad := u8At_bad zs k hk
        have hgood := u8At_good zs k hk
        have hw3 : (dec (zs.drop k)).2 ≤ n - k := by have h2 := hw.2.2; have h3 := HN.out; simp at h2; omega
        clear hk hbs
        generalize (dec (zs.drop k)).1 = R at D hbad hgood hw hw3
        generalize (dec (zs.drop k)).2 = K at D hbad hgood hw hw3
        obtain ⟨hw1, hw2, _⟩ := hw
        by_cases hx : R = 65533 ∧ K = 1
        · have E := Lib.hid (hbad hx.1 hx.2)
          have t1 : (R == 65533) = true := by simp [hx.1]
          have t2 : (K == 1) = true := by simp [hx.2]
          have HD := Lib.hid D
          clear hbad hgood hx D
          go_wp2_with (go_at_call 54; refine HD.out.mono ?_; rintro e w1 ⟨rfl, hb1⟩)
          go_ret
          exact ⟨ret_int (by rw [HA.out, E.out]), hbel.trans (hb1.mono hbel.size)⟩
        · have E := Lib.hid (hgood hx)
          have HD := Lib.hid D
          have HA2 : Hid (u8At zs 0 = u8At zs (k + K.toNat)) := HA.out.trans E.out
          clear hbad hgood D E HA
          by_cases hr : R = 65533
          · have t1 : (R == 65533) = true := by simp [hr]
            have t2 : (K == 1) = false := by simp; exact fun h => hx ⟨hr, h⟩
            clear hx hr
            go_wp2_with (go_at_call 54; refine HD.out.mono ?_; rintro e w1 ⟨rfl, hb1⟩)
            go_roundw
            case rel => exact ⟨hbel.trans (hb1.mono hbel.size), k + 1, k + K.toNat, by omega, by omega, by go_num, by rw [show ((k + K.toNat : Nat) : Int) = k + K from by omega], HA2.out⟩
            case measure => simp [intOf]; omega
          · have t1 : (R == 65533) = false := by simp [hr]
            clear hx hr
            go_wp2_with (go_at_call 54; refine HD.out.mono ?_; rintro e w1 ⟨rfl, hb1⟩)
            go_roundw
            case rel => exact ⟨hbel.trans (hb1.mono hbel.size), k + 1, k + K.toNat, by omega, by omega, by go_num, by rw [show ((k + K.toNat : Nat) : Int) = k + K from by omega], HA2.out⟩
            case measure => simp [intOf]; omega
    · go_wp2
      go_ret
      have hj : j = n := by omega
      exact ⟨ret_int (by rw [HA.out, u8At_end _ _ (by rw [hj, HN.out]; exact Nat.le_refl _)]), hbel⟩
theorem rutf8_some (b off cap : Nat) (zs : List Int) (w : World) (hT : Tabs w) (hb : ∀ i, 0 ≤ zs.getD i 0 ∧ zs.getD i 0 ≤ 255) (hlt : zs ≠ [] → b < w.heap.size) (hc : ∀ i, i < zs.length → w.cell? ⟨b, off + i, none⟩ = some (.int .u8 (zs.getD i 0)))
    (hl : (zs.length : Int) ≤ 9223372036854775807) (hcap : zs.length ≤ cap) :
    Calls Tryd.prog 55 #[.slice (some ⟨b, off, none⟩) zs.length cap] w fun e w' => e = .returned (.int .i64 (u8At zs 0)) ∧ Below w.heap.size w w' := by
  obtain ⟨n, hn⟩ : ∃ n, n = zs.length := ⟨_, rfl⟩
  have HN := Lib.hid hn
  have HP := Lib.hid hc
  have HB := Lib.hid hb
  have HL := Lib.hid hlt
  have HT := Lib.hid hT
  rw [← hn] at hl hcap ⊢
  clear hc hb hn hlt hT
  go_enter Tryd.func55, Tryd.ntmps55
  go_wp2
  go_loopw [3] (fun i wr => Below w.heap.size w wr ∧ ∃ k : Nat, k ≤ n ∧ i = .int .i64 k ∧ u8At zs 0 = u8At zs k) (fun i _ => n - (intOf i).toNat)
  case atStart => exact ⟨Below.refl _ _, 0, Nat.zero_le _, rfl, rfl⟩
  case round =>
    obtain ⟨hbel, k, hkn, rfl, hans⟩ := hrel
    have HA := Lib.hid hans
    clear hans
    by_cases hlt : k < n
    · have hk : k < zs.length := by rw [← HN.out]; exact hlt
      have hw := dec_width (zs.drop k) (by simp; omega)
      have hbs : b < w.heap.size := HL.out (by intro h; rw [h] at hk; simp at hk)
      have D := dec_at zs k b off (cap - k) _ (HT.out.below (Nat.le_refl _) hbel) (fun i hi => (hbel.cell (p := ⟨b, off + i, none⟩) hbs).trans (HP.out i hi)) HB.out
      rw [← HN.out] at D
      have hbad := u8At_bad zs k hk
      have hgood := u8At_good zs k hk
      have hw3 : (dec (zs.drop k)).2 ≤ n - k := by have h2 := hw.2.2; have h3 := HN.out; simp at h2; omega
      clear hk hbs
      generalize (dec (zs.drop k)).1 = R at D hbad hgood hw hw3
      generalize (dec (zs.drop k)).2 = K at D hbad hgood hw hw3
      obtain ⟨hw1, hw2, _⟩ := hw
      by_cases hx : R = 65533 ∧ K = 1
      · have E := Lib.hid (hbad hx.1 hx.2)
        have t1 : (R == 65533) = true := by simp [hx.1]
        have t2 : K ≤ 1 := by omega
        have HD := Lib.hid D
        clear hbad hgood hx D
        go_wp2_with (go_at_call 54; refine HD.out.mono ?_; rintro e w1 ⟨rfl, hb1⟩)
        go_ret
        exact ⟨ret_int (by rw [HA.out, E.out]), hbel.trans (hb1.mono hbel.size)⟩
      · have E := Lib.hid (hgood hx)
        have HD := Lib.hid D
        have HA2 : Hid (u8At zs 0 = u8At zs (k + K.toNat)) := HA.out.trans E.out
        clear hbad hgood D E HA
        by_cases hr : R = 65533
        · have t1 : (R == 65533) = true := by simp [hr]
          have t2 : ¬ K ≤ 1 := fun h => hx ⟨hr, by omega⟩
          clear hx hr
          go_wp2_with (go_at_call 54; refine HD.out.mono ?_; rintro e w1 ⟨rfl, hb1⟩)
          go_roundw
          case rel => exact ⟨hbel.trans (hb1.mono hbel.size), k + K.toNat, by omega, by rw [show ((k + K.toNat : Nat) : Int) = k + K from by omega], HA2.out⟩
          case measure => simp [intOf]; omega
        · have t1 : (R == 65533) = false := by simp [hr]
          clear hx hr
          go_wp2_with (go_at_call 54; refine HD.out.mono ?_; rintro e w1 ⟨rfl, hb1⟩)
          go_roundw
          case rel => exact ⟨hbel.trans (hb1.mono hbel.size), k + K.toNat, by omega, by rw [show ((k + K.toNat : Nat) : Int) = k + K from by omega], HA2.out⟩
          case measure => simp [intOf]; omega
    · go_wp2
      go_ret
      have hj : k = n := by omega
      exact ⟨ret_int (by rw [HA.out, u8At_end _ _ (by rw [hj, HN.out]; exact Nat.le_refl _)]), hbel⟩
/-- At no bytes, whatever the slice's address. -/
theorem u8At_nil : u8At [] 0 = -1 := rfl
theorem wutf8_none (p : Option Addr) (cap : Nat) (w : World) :
    Calls Tryd.prog 41 #[.slice p 0 cap] w fun e w' => e = .returned (.int .i64 (-1)) ∧ w = w' := by
  go_enter Tryd.func41, Tryd.ntmps41
  go_wp2
  go_loop [9] (fun i => i = .int .i64 0) (fun _ => 0)
  case atStart => rfl
  case round =>
    subst hrel
    go_wp2
    go_ret
    exact ⟨rfl, rfl⟩
theorem rutf8_none (p : Option Addr) (cap : Nat) (w : World) :
    Calls Tryd.prog 55 #[.slice p 0 cap] w fun e w' => e = .returned (.int .i64 (-1)) ∧ w = w' := by
  go_enter Tryd.func55, Tryd.ntmps55
  go_wp2
  go_loop [3] (fun i => i = .int .i64 0) (fun _ => 0)
  case atStart => rfl
  case round =>
    subst hrel
    go_wp2
    go_ret
    exact ⟨rfl, rfl⟩
theorem wutf8_anyM (p : Option Addr) (cap : Nat) (zs : List Int) (w : World) (hT : Tabs w) (hz : Bytes w p zs) (hl : (zs.length : Int) ≤ 9223372036854775807) (hcap : zs.length ≤ cap) :
    Calls Tryd.prog 41 #[.slice p zs.length cap] w fun e w' => e = .returned (.int .i64 (u8At zs 0)) ∧ Below w.heap.size w w' := by
  by_cases hne : zs = []
  · subst hne
    exact (wutf8_none p cap w).mono fun e w' h => ⟨h.1, by rw [← h.2]; exact Below.refl _ _⟩
  · obtain ⟨b, off, rfl, hlt, hc⟩ := hz.2 hne
    exact wutf8_some b off cap zs w hT hz.1 (fun _ => hlt) hc hl hcap
theorem wutf8_any (p : Option Addr) (cap : Nat) (zs : List Int) (w : World) (hT : Tabs w) (hz : Bytes w p zs) (hl : (zs.length : Int) ≤ 9223372036854775800) (hcap : zs.length ≤ cap) :
    Calls Tryd.prog 41 #[.slice p zs.length cap] w fun e w' => e = .returned (.int .i64 (u8At zs 0)) ∧ Below w.heap.size w w' := wutf8_anyM p cap zs w hT hz (by omega) hcap
theorem rutf8_anyM (p : Option Addr) (cap : Nat) (zs : List Int) (w : World) (hT : Tabs w) (hz : Bytes w p zs) (hl : (zs.length : Int) ≤ 9223372036854775807) (hcap : zs.length ≤ cap) :
    Calls Tryd.prog 55 #[.slice p zs.length cap] w fun e w' => e = .returned (.int .i64 (u8At zs 0)) ∧ Below w.heap.size w w' := by
  by_cases hne : zs = []
  · subst hne
    exact (rutf8_none p cap w).mono fun e w' h => ⟨h.1, by rw [← h.2]; exact Below.refl _ _⟩
  · obtain ⟨b, off, rfl, hlt, hc⟩ := hz.2 hne
    exact rutf8_some b off cap zs w hT hz.1 (fun _ => hlt) hc hl hcap
theorem rutf8_any (p : Option Addr) (cap : Nat) (zs : List Int) (w : World) (hT : Tabs w) (hz : Bytes w p zs) (hl : (zs.length : Int) ≤ 9223372036854775800) (hcap : zs.length ≤ cap) :
    Calls Tryd.prog 55 #[.slice p zs.length cap] w fun e w' => e = .returned (.int .i64 (u8At zs 0)) ∧ Below w.heap.size w w' := rutf8_anyM p cap zs w hT hz (by omega) hcap
theorem wutf8_call (g cap n : Nat) (zs : List Int) (w : World) (hT : Tabs w) (hz : Bytes w (some ⟨g, 0, none⟩) zs) (hn : zs.length = n) (hl : (n : Int) ≤ 9223372036854775800) (hcap : zs.length ≤ cap) :
    Calls Tryd.prog 41 #[.slice (some ⟨g, 0, none⟩) n cap] w fun e w' => e = .returned (.int .i64 (u8At zs 0)) ∧ Below w.heap.size w w' := by
  subst hn
  exact wutf8_any _ cap zs w hT hz hl hcap
theorem rutf8_call (a : Option Addr) (cap n : Nat) (zs : List Int) (w : World) (hT : Tabs w) (hz : Bytes w a zs) (hn : zs.length = n) (hl : (n : Int) ≤ 9223372036854775800) (hcap : n ≤ cap) :
    Calls Tryd.prog 55 #[.slice a n cap] w fun e w' => e = .returned (.int .i64 (u8At zs 0)) ∧ Below w.heap.size w w' := by
  subst hn
  exact rutf8_any _ cap zs w hT hz hl hcap
theorem wutf8_off (b off cap n : Nat) (zs : List Int) (w : World) (hT : Tabs w) (hb : ∀ i, 0 ≤ zs.getD i 0 ∧ zs.getD i 0 ≤ 255) (hlt : b < w.heap.size) (hc : ∀ i, i < zs.length → w.cell? ⟨b, off + i, none⟩ = some (.int .u8 (zs.getD i 0))) (hn : zs.length = n)
    (hl : (n : Int) ≤ 9223372036854775800) (hcap : n ≤ cap) :
    Calls Tryd.prog 41 #[.slice (some ⟨b, off, none⟩) n cap] w fun e w' => e = .returned (.int .i64 (u8At zs 0)) ∧ Below w.heap.size w w' := by
  subst hn
  exact wutf8_some b off cap zs w hT hb (fun _ => hlt) hc (by omega) hcap
theorem wutf8_gen (p : Option Addr) (cap n : Nat) (zs : List Int) (w : World) (hT : Tabs w) (hz : Bytes w p zs) (hn : zs.length = n) (hl : (n : Int) ≤ 9223372036854775807) (hcap : n ≤ cap) :
    Calls Tryd.prog 41 #[.slice p n cap] w fun e w' => e = .returned (.int .i64 (u8At zs 0)) ∧ Below w.heap.size w w' := by
  subst hn
  exact wutf8_anyM _ cap zs w hT hz hl hcap
theorem rutf8_gen (a : Option Addr) (cap n : Nat) (zs : List Int) (w : World) (hT : Tabs w) (hz : Bytes w a zs) (hn : zs.length = n) (hl : (n : Int) ≤ 9223372036854775807) (hcap : n ≤ cap) :
    Calls Tryd.prog 55 #[.slice a n cap] w fun e w' => e = .returned (.int .i64 (u8At zs 0)) ∧ Below w.heap.size w w' := by
  subst hn
  exact rutf8_anyM _ cap zs w hT hz hl hcap
theorem u8From_range (zs : List Int) : ∀ (f i : Nat), -1 ≤ u8From zs f i ∧ u8From zs f i ≤ zs.length
  | 0, i => by simp [u8From]
  | f + 1, i => by
    simp only [u8From]
    split
    · split
      · omega
      · exact u8From_range zs f _
    · omega
theorem u8At_range (zs : List Int) (i : Nat) : -1 ≤ u8At zs i ∧ u8At zs i ≤ zs.length := u8From_range zs _ i
end Go.Proofs.YtfghaopimeoijaaDoor
