/-
  Where bytes first begin no sign of UTF-8: the document's own. Condition: the library's tables hold what the row lists.
-/
import Derived.Test.YtneadcbadnicfaaDoorUtf8P
namespace Go.Proofs.YtneadcbadnicfaaDoor
open Go.ChangeShapes Go.WideShapes Go.ChangeAt Go.RowKit

theorem rutf8_some (b off cap : Nat) (zs : List Int) (w : World) (hT : Tabs w) (hb : ∀ i, 0 ≤ zs.getD i 0 ∧ zs.getD i 0 ≤ 255) (hlt : zs ≠ [] → b < w.heap.size) (hc : ∀ i, i < zs.length → w.cell? ⟨b, off + i, none⟩ = some (.int .u8 (zs.getD i 0)))
    (hl : (zs.length : Int) ≤ 9223372036854775807) (hcap : zs.length ≤ cap) :
    Calls Tryd.prog 51 #[.slice (some ⟨b, off, none⟩) zs.length cap] w fun e w' => e = .returned (.int .i64 (u8At zs 0)) ∧ Below w.heap.size w w' := by
  obtain ⟨n, hn⟩ : ∃ n, n = zs.length := ⟨_, rfl⟩
  have HN := Lib.hid hn
  have HP := Lib.hid hc
  have HB := Lib.hid hb
  have HL := Lib.hid hlt
  have HT := Lib.hid hT
  rw [← hn] at hl hcap ⊢
  clear hc hb hn hlt hT
  go_enter Tryd.func51, Tryd.ntmps51
  go_wp2
  go_loopw [3] (fun i wr => Below w.heap.size w wr ∧ ∃ k : Nat, k ≤ n ∧ i = .int .i64 k ∧ u8At zs 0 = u8At zs k) (fun i _ => n - (intOf i).toNat)
  case atStart => exact ⟨Below.refl _ _, 0, Nat.zero_le _, rfl, rfl⟩
  case round =>
    obtain ⟨hbel, k, hkn, rfl, hans⟩ := hrel
    have HA := Lib.hid hans
    clear hans
    by_cases hlt : k < n
    · have hk : k < zs.length := by rw [← HN.out]; exact hlt
      have hw := dec_width (zs.drop k) (by simp; omega)
      have hbs : b < w.heap.size := HL.out (by intro h; rw [h] at hk; simp at hk)
      have D := dec_at zs k b off (cap - k) _ (HT.out.below (Nat.le_refl _) hbel) (fun i hi => (hbel.cell (p := ⟨b, off + i, none⟩) hbs).trans (HP.out i hi)) HB.out
      rw [← HN.out] at D
      have hbad := u8At_bad zs k hk
      have hgood := u8At_good zs k hk
      have hw3 : (dec (zs.drop k)).2 ≤ n - k := by have h2 := hw.2.2; have h3 := HN.out; simp at h2; omega
      clear hk hbs
      generalize (dec (zs.drop k)).1 = R at D hbad hgood hw hw3
      generalize (dec (zs.drop k)).2 = K at D hbad hgood hw hw3
      obtain ⟨hw1, hw2, _⟩ := hw
      by_cases hx : R = 65533 ∧ K = 1
      · have E := Lib.hid (hbad hx.1 hx.2)
        have t1 : (R == 65533) = true := by simp [hx.1]
        have t2 : K ≤ 1 := by omega
        have HD := Lib.hid D
        clear hbad hgood hx D
        go_wp2_with (go_at_call 49; refine HD.out.mono ?_; rintro e w1 ⟨rfl, hb1⟩)
        go_ret
        exact ⟨ret_int (by rw [HA.out, E.out]), hbel.trans (hb1.mono hbel.size)⟩
      · have E := Lib.hid (hgood hx)
        have HD := Lib.hid D
        have HA2 : Hid (u8At zs 0 = u8At zs (k + K.toNat)) := HA.out.trans E.out
        clear hbad hgood D E HA
        by_cases hr : R = 65533
        · have t1 : (R == 65533) = true := by simp [hr]
          have t2 : ¬ K ≤ 1 := fun h => hx ⟨hr, by omega⟩
          clear hx hr
          go_wp2_with (go_at_call 49; refine HD.out.mono ?_; rintro e w1 ⟨rfl, hb1⟩)
          go_roundw
          case rel => exact ⟨hbel.trans (hb1.mono hbel.size), k + K.toNat, by omega, by rw [show ((k + K.toNat : Nat) : Int) = k + K from by omega], HA2.out⟩
          case measure => simp [intOf]; omega
        · have t1 : (R == 65533) = false := by simp [hr]
          clear hx hr
          go_wp2_with (go_at_call 49; refine HD.out.mono ?_; rintro e w1 ⟨rfl, hb1⟩)
          go_roundw
          case rel => exact ⟨hbel.trans (hb1.mono hbel.size), k + K.toNat, by omega, by rw [show ((k + K.toNat : Nat) : Int) = k + K from by omega], HA2.out⟩
          case measure => simp [intOf]; omega
    · go_wp2
      go_ret
      have hj : k = n := by omega
      exact ⟨ret_int (by rw [HA.out, u8At_end _ _ (by rw [hj, HN.out]; exact Nat.le_refl _)]), hbel⟩
theorem rutf8_none (p : Option Addr) (cap : Nat) (w : World) :
    Calls Tryd.prog 51 #[.slice p 0 cap] w fun e w' => e = .returned (.int .i64 (-1)) ∧ w = w' := by
  go_enter Tryd.func51, Tryd.ntmps51
  go_wp2
  go_loop [3] (fun i => i = .int .i64 0) (fun _ => 0)
  case atStart => rfl
  case round =>
    subst hrel
    go_wp2
    go_ret
    exact ⟨rfl, rfl⟩
theorem rutf8_anyM (p : Option Addr) (cap : Nat) (zs : List Int) (w : World) (hT : Tabs w) (hz : Bytes w p zs) (hl : (zs.length : Int) ≤ 9223372036854775807) (hcap : zs.length ≤ cap) :
    Calls Tryd.prog 51 #[.slice p zs.length cap] w fun e w' => e = .returned (.int .i64 (u8At zs 0)) ∧ Below w.heap.size w w' := by
  by_cases hne : zs = []
  · subst hne
    exact (rutf8_none p cap w).mono fun e w' h => ⟨h.1, by rw [← h.2]; exact Below.refl _ _⟩
  · obtain ⟨b, off, rfl, hlt, hc⟩ := hz.2 hne
    exact rutf8_some b off cap zs w hT hz.1 (fun _ => hlt) hc hl hcap
theorem rutf8_any (p : Option Addr) (cap : Nat) (zs : List Int) (w : World) (hT : Tabs w) (hz : Bytes w p zs) (hl : (zs.length : Int) ≤ 9223372036854775800) (hcap : zs.length ≤ cap) :
    Calls Tryd.prog 51 #[.slice p zs.length cap] w fun e w' => e = .returned (.int .i64 (u8At zs 0)) ∧ Below w.heap.size w w' := rutf8_anyM p cap zs w hT hz (by omega) hcap
theorem rutf8_call (a : Option Addr) (cap n : Nat) (zs : List Int) (w : World) (hT : Tabs w) (hz : Bytes w a zs) (hn : zs.length = n) (hl : (n : Int) ≤ 9223372036854775800) (hcap : n ≤ cap) :
    Calls Tryd.prog 51 #[.slice a n cap] w fun e w' => e = .returned (.int .i64 (u8At zs 0)) ∧ Below w.heap.size w w' := by
  subst hn
  exact rutf8_any _ cap zs w hT hz hl hcap
theorem rutf8_gen (a : Option Addr) (cap n : Nat) (zs : List Int) (w : World) (hT : Tabs w) (hz : Bytes w a zs) (hn : zs.length = n) (hl : (n : Int) ≤ 9223372036854775807) (hcap : n ≤ cap) :
    Calls Tryd.prog 51 #[.slice a n cap] w fun e w' => e = .returned (.int .i64 (u8At zs 0)) ∧ Below w.heap.size w w' := by
  subst hn
  exact rutf8_anyM _ cap zs w hT hz hl hcap
end Go.Proofs.YtneadcbadnicfaaDoor
