/-
  The law WireBack returns true at all bytes, places and numbers: a walk over the callees' contracts. Condition: the library's tables hold what the row lists.
-/
import Derived.Test.YtjnpfjiphhnoiaaDoorAwake
import Derived.Test.YtjnpfjiphhnoiaaDoorCopy
import Derived.Test.YtjnpfjiphhnoiaaDoorPart
namespace Go.Proofs.YtjnpfjiphhnoiaaDoor
open Go.ChangeShapes Go.WideShapes Go.ChangeAt Go.RowKit
/-- The four sizes, one a round. -/
def szAt (k : Nat) : Int := [(1 : Int), 2, 4, 8].getD k 0
theorem szAt_is (k : Nat) (h : k < 4) : szAt k = 1 ∨ szAt k = 2 ∨ szAt k = 4 ∨ szAt k = 8 := by
  obtain rfl | rfl | rfl | rfl : k = 0 ∨ k = 1 ∨ k = 2 ∨ k = 3 := by omega
  all_goals decide
set_option maxRecDepth 100000 in
set_option maxHeartbeats 2000000 in
theorem back_small (a0 : Option Addr) (len cap : Nat) (zs : List Int) (a n : Int) (w : World) (hz : IsRow .u8 w a0 len cap zs) (hbig : (len : Int) ≤ 1000) (ha0 : -9223372036854775808 ≤ a) (ha1 : a ≤ 9223372036854775807) (hn0 : 0 ≤ n) (hn1 : n ≤ 18446744073709551615) (hT : Tabs w) :
    Calls Tryd.prog 5 #[.slice a0 len cap, .int .i64 a, .int .u64 n] w fun e w' => e = .returned (.bool true) ∧ Below w.heap.size w w' := by
  have HA := Lib.hid (awake_any w hT)
  have HZ := Lib.hid hz
  obtain ⟨hl, hm, _, _, _⟩ := hz
  unfold maxLen at hm
  clear hT
  obtain ⟨i0, hi0, hz0, hz1, hz2⟩ := info_parts u8_info
  have I1 := Lib.hid hi0
  have I2 := Lib.hid hz0
  have I3 := Lib.hid hz1
  have I4 := Lib.hid hz2
  clear hi0 hz0 hz1 hz2
  go_enter Tryd.func5, Tryd.ntmps5
  go_wp2_with fail
  refine HA.out.mono ?_
  rintro e w1 ⟨rfl, hb⟩
  have HB := Lib.hid hb
  clear hb
  go_wp2_with fail
  go_loopw [19] (fun i wr => Below w.heap.size w wr ∧ w1.heap.size < wr.heap.size ∧ (∃ k : Nat, k ≤ 4 ∧ i = .int .i64 k) ∧ ∀ j, j < 4 → wr.cell? ⟨w1.heap.size, j, none⟩ = some (.int .i64 (szAt j))) (fun i _ => 4 - (intOf i).toNat)
  case atStart =>
    refine ⟨HB.out.alloc HB.out.size _, by simp, ⟨0, by omega, rfl⟩, fun j hj => ?_⟩
    obtain rfl | rfl | rfl | rfl : j = 0 ∨ j = 1 ∨ j = 2 ∨ j = 3 := by omega
    · rw [show szAt 0 = 1 from rfl]; go_cell
    · rw [show szAt 1 = 2 from rfl]; go_cell
    · rw [show szAt 2 = 4 from rfl]; go_cell
    · rw [show szAt 3 = 8 from rfl]; go_cell
  case round =>
    obtain ⟨hbel, hsz, ⟨k, hk, rfl⟩, hcells⟩ := hrel
    have HR := Lib.hid hbel
    have HS := Lib.hid hcells
    clear hbel hcells
    by_cases hlt : k < 4
    · have hcell := HS.out k hlt
      have hs := szAt_is k hlt
      generalize szAt k = s at hcell hs
      go_wp2_with (at_builtin; refine wpList_app_u8 rfl (.tmp 23) (.tmp 24) 29 29 rfl wr.heap.size 5 i0 (.int .u8 0) Tryd.underlying29 I1.out I2.out I3.out I4.out rfl wr.heap.size 0 0 [] rfl (World.ownsRow_made wr #[] 0 (Nat.le_refl _) (Nat.zero_le _) rfl) _ len (zs.take len) rfl ((HZ.out.src (HR.out.alloc HR.out.size _)).toSrc Tryd.underlying29) (by omega) (by simp) ?_; intro g2 c2 w2 hown2 hb2)
      have hown2' := hown2
      rw [Nat.zero_add, List.nil_append] at hown2'
      have HC2 := Lib.hid hown2'
      have hbb2 := ((Below.refl wr.heap.size wr).alloc (Nat.le_refl _) (.cells #[] 5)).trans hb2
      have HBq := Lib.hid hbb2
      have HB2 := Lib.hid (HR.out.trans (hbb2.mono HR.out.size))
      have HL := Lib.hid (show (zs.take len).length = len by have := HZ.out.2.2.1; simp; omega)
      have hz2 : wr.heap.size ≤ w2.heap.size := hbb2.size
      clear hown2 hown2' hb2 hbb2 hcell
      rcases hs with rfl | rfl | rfl | rfl
      · by_cases hin : 0 ≤ a ∧ a ≤ len ∧ (1 : Int) ≤ len - a
        · obtain ⟨h0, h1, h2⟩ := hin
          obtain ⟨a, rfl⟩ := Int.eq_ofNat_of_zero_le h0
          have hfit : a + 1 ≤ len := by omega
          refine (store_yes wr.heap.size g2 len c2 a 1 n _ (zs.take len) HC2.out (by omega) (by omega) (by omega) (by omega) (by omega)).mono ?_
          rintro e w3 ⟨rfl, hown3, hgr3⟩
          have hown3' : OwnR w3 wr.heap.size 5 g2 len c2 (laidOver (zs.take len) a n 1) := hown3
          have HC3 := Lib.hid hown3'
          have HB3 := Lib.hid (HB2.out.grown hgr3 HB2.out.size (fun k hk => by injection hk with hk; subst hk; exact Nat.le_trans HR.out.size HC2.out.facts.2.1))
          have HBr := Lib.hid ((HBq.out.grown hgr3 HBq.out.size (fun k hk => by injection hk with hk; subst hk; exact HC2.out.facts.2.1)))
          have hz3 : w2.heap.size ≤ w3.heap.size := hgr3.size
          clear hown3 hown3' hgr3
          have hb3 : ∀ i, 0 ≤ (laidOver (zs.take len) a n 1).getD i 0 ∧ (laidOver (zs.take len) a n 1).getD i 0 ≤ 255 := fun i => by
            rw [laidOver_get _ _ _ _ _ (by rw [HL.out]; exact hfit)]
            split
            · exact byteAt_bd _ _
            · exact bytes_wf (take_wf (m := len) (HZ.out.2.2.2.1)) i
          have HX := Lib.hid hb3
          clear hb3
          go_wp2_with fail
          refine (load_yes g2 0 len c2 a 1 w3 (laidOver (zs.take len) a n 1) (by omega) (by rw [laidOver_length, HL.out]; exact Nat.le_refl _) (fun i hi => by rw [Nat.zero_add]; exact HC3.out.facts.2.2.2.2.2.1 i hi) HX.out (by omega) (by omega) (by omega) (by omega)).mono ?_
          rintro e w4 ⟨rfl, rfl⟩
          rw [show leAt (laidOver (zs.take len) a n 1) (a : Int).toNat (1 : Int).toNat = n % 256 from leAt_laid1 _ a n hn0 (by rw [HL.out]; exact hfit)]
          go_wp2_with fail
          obtain ⟨b0, off, rfl, hlt0, _⟩ := HZ.out.2.2.2.2 (by
            intro h
            have h1 := HL.out
            rw [h] at h1
            simp at h1
            omega)
          have e1 : IntKind.i64.wrap ((a : Int) + 1) = (a : Int) + 1 := IntWalk.i64_in _ (by omega)
          have e2 : ((a : Int) + 1).toNat = a + 1 := by omega
          have hcc := HC2.out.facts.2.2.2.1
          have k1 : ∀ nq, (convert 29 9 (.slice (some ⟨g2, 0, none⟩) a c2)).run Tryd.prog (w3.drewN nq) = .ok (.string (strOfNums ((zs.take len).take a))) (w3.drewN nq) := fun nq => by
            have h := HC3.out.part (P := Tryd.prog) (w' := w3.drewN nq) (fun _ => by simp) 29 9 Tryd.underlying29 Tryd.underlying5 Tryd.underlying9 0 a c2 (by omega)
            rw [List.drop_zero, laidOver_take _ _ _ _ (by rw [HL.out]; exact hfit)] at h
            exact h
          have k2 : ∀ nq, (convert 29 9 (.slice (some ⟨b0, off, none⟩) a cap)).run Tryd.prog (w3.drewN nq) = .ok (.string (strOfNums ((zs.take len).take a))) (w3.drewN nq) := fun nq => by
            have h := HZ.out.part (P := Tryd.prog) (bel_drewN HB3.out nq) 29 9 Tryd.underlying29 Tryd.underlying5 Tryd.underlying9 0 a cap (by omega)
            rw [List.drop_zero] at h
            exact h
          generalize strOfNums ((zs.take len).take a) = S1 at k1 k2
          have ha := and_8 n hn0 hn1
          by_cases hend : len = a + 1
          · have k3 : ∀ (p : Option Addr) (c nq : Nat), (convert 29 9 (.slice p 0 c)).run Tryd.prog (w3.drewN nq) = .ok (.string (strOfNums [])) (w3.drewN nq) := fun p c nq => conv_zero _ _ 5 _ Tryd.underlying29 Tryd.underlying5 Tryd.underlying9 p c
            have e3 : len - (a + 1) = 0 := by omega
            generalize strOfNums [] = S2 at k3
            clear hend
            go_quiet (fail)
            go_wp2_with fail
            go_roundw
            case rel => exact ⟨bel_drewN HB3.out _, by show w1.heap.size < w3.heap.size; omega, ⟨k + 1, by omega, by go_num⟩, fun j hj => by rw [World.cell?_drewN]; exact (HBr.out.cell (p := ⟨w1.heap.size, j, none⟩) hsz).trans (HS.out j hj)⟩
            case measure => simp [intOf]; omega
          · have hc1 : ¬ c2 = a + 1 := by omega
            have hc2 : ¬ cap = a + 1 := by omega
            have k3 : ∀ nq, (convert 29 9 (.slice (some ⟨g2, a + 1, none⟩) (len - (a + 1)) (c2 - (a + 1)))).run Tryd.prog (w3.drewN nq) = .ok (.string (strOfNums (((zs.take len).drop (a + 1)).take (len - (a + 1))))) (w3.drewN nq) := fun nq => by
              have h := HC3.out.part (P := Tryd.prog) (w' := w3.drewN nq) (fun _ => by simp) 29 9 Tryd.underlying29 Tryd.underlying5 Tryd.underlying9 (a + 1) (len - (a + 1)) (c2 - (a + 1)) (by omega)
              rw [laidOver_drop _ _ _ _ (by rw [HL.out]; exact hfit)] at h
              exact h
            have k4 : ∀ nq, (convert 29 9 (.slice (some ⟨b0, off + (a + 1), none⟩) (len - (a + 1)) (cap - (a + 1)))).run Tryd.prog (w3.drewN nq) = .ok (.string (strOfNums (((zs.take len).drop (a + 1)).take (len - (a + 1))))) (w3.drewN nq) := fun nq =>
              HZ.out.part (P := Tryd.prog) (bel_drewN HB3.out nq) 29 9 Tryd.underlying29 Tryd.underlying5 Tryd.underlying9 (a + 1) (len - (a + 1)) (cap - (a + 1)) (by omega)
            generalize strOfNums (((zs.take len).drop (a + 1)).take (len - (a + 1))) = S2 at k3 k4
            clear hend
            go_quiet (fail)
            go_wp2_with fail
            go_roundw
            case rel => exact ⟨bel_drewN HB3.out _, by show w1.heap.size < w3.heap.size; omega, ⟨k + 1, by omega, by go_num⟩, fun j hj => by rw [World.cell?_drewN]; exact (HBr.out.cell (p := ⟨w1.heap.size, j, none⟩) hsz).trans (HS.out j hj)⟩
            case measure => simp [intOf]; omega
        · have hno : a < 0 ∨ (len : Int) < a ∨ len - a < 1 := by omega
          clear hin
          refine (store_no _ _ _ _ 1 _ _ (by omega) (Or.inr hno)).mono ?_
          rintro e w3 ⟨rfl, rfl⟩
          have s1 := HC2.out.str (P := Tryd.prog) 29 9 Tryd.underlying29 Tryd.underlying5 Tryd.underlying9
          have s2 := HZ.out.str (P := Tryd.prog) HB2.out 29 9 Tryd.underlying29 Tryd.underlying5 Tryd.underlying9
          generalize strOfNums (zs.take len) = S1 at s1 s2
          by_cases hneg : a < 0
          · clear hno
            go_wp2_with fail
            go_roundw
            case rel => exact ⟨HB2.out, by omega, ⟨k + 1, by omega, by go_num⟩, fun j hj => (HBq.out.cell (p := ⟨w1.heap.size, j, none⟩) hsz).trans (HS.out j hj)⟩
            case measure => simp [intOf]; omega
          · have hpos : 0 ≤ a := by omega
            clear hneg
            by_cases hge : (len : Int) ≤ a
            · clear hno
              go_wp2_with fail
              go_roundw
              case rel => exact ⟨HB2.out, by omega, ⟨k + 1, by omega, by go_num⟩, fun j hj => (HBq.out.cell (p := ⟨w1.heap.size, j, none⟩) hsz).trans (HS.out j hj)⟩
              case measure => simp [intOf]; omega
            · have hlt2 : a < len := by omega
              have hno2 : (len : Int) - a < 1 := by omega
              exfalso; omega
      · by_cases hin : 0 ≤ a ∧ a ≤ len ∧ (2 : Int) ≤ len - a
        · obtain ⟨h0, h1, h2⟩ := hin
          obtain ⟨a, rfl⟩ := Int.eq_ofNat_of_zero_le h0
          have hfit : a + 2 ≤ len := by omega
          refine (store_yes wr.heap.size g2 len c2 a 2 n _ (zs.take len) HC2.out (by omega) (by omega) (by omega) (by omega) (by omega)).mono ?_
          rintro e w3 ⟨rfl, hown3, hgr3⟩
          have hown3' : OwnR w3 wr.heap.size 5 g2 len c2 (laidOver (zs.take len) a n 2) := hown3
          have HC3 := Lib.hid hown3'
          have HB3 := Lib.hid (HB2.out.grown hgr3 HB2.out.size (fun k hk => by injection hk with hk; subst hk; exact Nat.le_trans HR.out.size HC2.out.facts.2.1))
          have HBr := Lib.hid ((HBq.out.grown hgr3 HBq.out.size (fun k hk => by injection hk with hk; subst hk; exact HC2.out.facts.2.1)))
          have hz3 : w2.heap.size ≤ w3.heap.size := hgr3.size
          clear hown3 hown3' hgr3
          have hb3 : ∀ i, 0 ≤ (laidOver (zs.take len) a n 2).getD i 0 ∧ (laidOver (zs.take len) a n 2).getD i 0 ≤ 255 := fun i => by
            rw [laidOver_get _ _ _ _ _ (by rw [HL.out]; exact hfit)]
            split
            · exact byteAt_bd _ _
            · exact bytes_wf (take_wf (m := len) (HZ.out.2.2.2.1)) i
          have HX := Lib.hid hb3
          clear hb3
          go_wp2_with fail
          refine (load_yes g2 0 len c2 a 2 w3 (laidOver (zs.take len) a n 2) (by omega) (by rw [laidOver_length, HL.out]; exact Nat.le_refl _) (fun i hi => by rw [Nat.zero_add]; exact HC3.out.facts.2.2.2.2.2.1 i hi) HX.out (by omega) (by omega) (by omega) (by omega)).mono ?_
          rintro e w4 ⟨rfl, rfl⟩
          rw [show leAt (laidOver (zs.take len) a n 2) (a : Int).toNat (2 : Int).toNat = n % 65536 from leAt_laid2 _ a n hn0 (by rw [HL.out]; exact hfit)]
          go_wp2_with fail
          obtain ⟨b0, off, rfl, hlt0, _⟩ := HZ.out.2.2.2.2 (by
            intro h
            have h1 := HL.out
            rw [h] at h1
            simp at h1
            omega)
          have e1 : IntKind.i64.wrap ((a : Int) + 2) = (a : Int) + 2 := IntWalk.i64_in _ (by omega)
          have e2 : ((a : Int) + 2).toNat = a + 2 := by omega
          have hcc := HC2.out.facts.2.2.2.1
          have k1 : ∀ nq, (convert 29 9 (.slice (some ⟨g2, 0, none⟩) a c2)).run Tryd.prog (w3.drewN nq) = .ok (.string (strOfNums ((zs.take len).take a))) (w3.drewN nq) := fun nq => by
            have h := HC3.out.part (P := Tryd.prog) (w' := w3.drewN nq) (fun _ => by simp) 29 9 Tryd.underlying29 Tryd.underlying5 Tryd.underlying9 0 a c2 (by omega)
            rw [List.drop_zero, laidOver_take _ _ _ _ (by rw [HL.out]; exact hfit)] at h
            exact h
          have k2 : ∀ nq, (convert 29 9 (.slice (some ⟨b0, off, none⟩) a cap)).run Tryd.prog (w3.drewN nq) = .ok (.string (strOfNums ((zs.take len).take a))) (w3.drewN nq) := fun nq => by
            have h := HZ.out.part (P := Tryd.prog) (bel_drewN HB3.out nq) 29 9 Tryd.underlying29 Tryd.underlying5 Tryd.underlying9 0 a cap (by omega)
            rw [List.drop_zero] at h
            exact h
          generalize strOfNums ((zs.take len).take a) = S1 at k1 k2
          have ha := and_16 n hn0 hn1
          by_cases hend : len = a + 2
          · have k3 : ∀ (p : Option Addr) (c nq : Nat), (convert 29 9 (.slice p 0 c)).run Tryd.prog (w3.drewN nq) = .ok (.string (strOfNums [])) (w3.drewN nq) := fun p c nq => conv_zero _ _ 5 _ Tryd.underlying29 Tryd.underlying5 Tryd.underlying9 p c
            have e3 : len - (a + 2) = 0 := by omega
            generalize strOfNums [] = S2 at k3
            clear hend
            go_quiet (fail)
            go_wp2_with fail
            go_roundw
            case rel => exact ⟨bel_drewN HB3.out _, by show w1.heap.size < w3.heap.size; omega, ⟨k + 1, by omega, by go_num⟩, fun j hj => by rw [World.cell?_drewN]; exact (HBr.out.cell (p := ⟨w1.heap.size, j, none⟩) hsz).trans (HS.out j hj)⟩
            case measure => simp [intOf]; omega
          · have hc1 : ¬ c2 = a + 2 := by omega
            have hc2 : ¬ cap = a + 2 := by omega
            have k3 : ∀ nq, (convert 29 9 (.slice (some ⟨g2, a + 2, none⟩) (len - (a + 2)) (c2 - (a + 2)))).run Tryd.prog (w3.drewN nq) = .ok (.string (strOfNums (((zs.take len).drop (a + 2)).take (len - (a + 2))))) (w3.drewN nq) := fun nq => by
              have h := HC3.out.part (P := Tryd.prog) (w' := w3.drewN nq) (fun _ => by simp) 29 9 Tryd.underlying29 Tryd.underlying5 Tryd.underlying9 (a + 2) (len - (a + 2)) (c2 - (a + 2)) (by omega)
              rw [laidOver_drop _ _ _ _ (by rw [HL.out]; exact hfit)] at h
              exact h
            have k4 : ∀ nq, (convert 29 9 (.slice (some ⟨b0, off + (a + 2), none⟩) (len - (a + 2)) (cap - (a + 2)))).run Tryd.prog (w3.drewN nq) = .ok (.string (strOfNums (((zs.take len).drop (a + 2)).take (len - (a + 2))))) (w3.drewN nq) := fun nq =>
              HZ.out.part (P := Tryd.prog) (bel_drewN HB3.out nq) 29 9 Tryd.underlying29 Tryd.underlying5 Tryd.underlying9 (a + 2) (len - (a + 2)) (cap - (a + 2)) (by omega)
            generalize strOfNums (((zs.take len).drop (a + 2)).take (len - (a + 2))) = S2 at k3 k4
            clear hend
            go_quiet (fail)
            go_wp2_with fail
            go_roundw
            case rel => exact ⟨bel_drewN HB3.out _, by show w1.heap.size < w3.heap.size; omega, ⟨k + 1, by omega, by go_num⟩, fun j hj => by rw [World.cell?_drewN]; exact (HBr.out.cell (p := ⟨w1.heap.size, j, none⟩) hsz).trans (HS.out j hj)⟩
            case measure => simp [intOf]; omega
        · have hno : a < 0 ∨ (len : Int) < a ∨ len - a < 2 := by omega
          clear hin
          refine (store_no _ _ _ _ 2 _ _ (by omega) (Or.inr hno)).mono ?_
          rintro e w3 ⟨rfl, rfl⟩
          have s1 := HC2.out.str (P := Tryd.prog) 29 9 Tryd.underlying29 Tryd.underlying5 Tryd.underlying9
          have s2 := HZ.out.str (P := Tryd.prog) HB2.out 29 9 Tryd.underlying29 Tryd.underlying5 Tryd.underlying9
          generalize strOfNums (zs.take len) = S1 at s1 s2
          by_cases hneg : a < 0
          · clear hno
            go_wp2_with fail
            go_roundw
            case rel => exact ⟨HB2.out, by omega, ⟨k + 1, by omega, by go_num⟩, fun j hj => (HBq.out.cell (p := ⟨w1.heap.size, j, none⟩) hsz).trans (HS.out j hj)⟩
            case measure => simp [intOf]; omega
          · have hpos : 0 ≤ a := by omega
            clear hneg
            by_cases hge : (len : Int) ≤ a
            · clear hno
              go_wp2_with fail
              go_roundw
              case rel => exact ⟨HB2.out, by omega, ⟨k + 1, by omega, by go_num⟩, fun j hj => (HBq.out.cell (p := ⟨w1.heap.size, j, none⟩) hsz).trans (HS.out j hj)⟩
              case measure => simp [intOf]; omega
            · have hlt2 : a < len := by omega
              have hno2 : (len : Int) - a < 2 := by omega
              clear hno hge
              go_wp2_with fail
              go_roundw
              case rel => exact ⟨HB2.out, by omega, ⟨k + 1, by omega, by go_num⟩, fun j hj => (HBq.out.cell (p := ⟨w1.heap.size, j, none⟩) hsz).trans (HS.out j hj)⟩
              case measure => simp [intOf]; omega
      · by_cases hin : 0 ≤ a ∧ a ≤ len ∧ (4 : Int) ≤ len - a
        · obtain ⟨h0, h1, h2⟩ := hin
          obtain ⟨a, rfl⟩ := Int.eq_ofNat_of_zero_le h0
          have hfit : a + 4 ≤ len := by omega
          refine (store_yes wr.heap.size g2 len c2 a 4 n _ (zs.take len) HC2.out (by omega) (by omega) (by omega) (by omega) (by omega)).mono ?_
          rintro e w3 ⟨rfl, hown3, hgr3⟩
          have hown3' : OwnR w3 wr.heap.size 5 g2 len c2 (laidOver (zs.take len) a n 4) := hown3
          have HC3 := Lib.hid hown3'
          have HB3 := Lib.hid (HB2.out.grown hgr3 HB2.out.size (fun k hk => by injection hk with hk; subst hk; exact Nat.le_trans HR.out.size HC2.out.facts.2.1))
          have HBr := Lib.hid ((HBq.out.grown hgr3 HBq.out.size (fun k hk => by injection hk with hk; subst hk; exact HC2.out.facts.2.1)))
          have hz3 : w2.heap.size ≤ w3.heap.size := hgr3.size
          clear hown3 hown3' hgr3
          have hb3 : ∀ i, 0 ≤ (laidOver (zs.take len) a n 4).getD i 0 ∧ (laidOver (zs.take len) a n 4).getD i 0 ≤ 255 := fun i => by
            rw [laidOver_get _ _ _ _ _ (by rw [HL.out]; exact hfit)]
            split
            · exact byteAt_bd _ _
            · exact bytes_wf (take_wf (m := len) (HZ.out.2.2.2.1)) i
          have HX := Lib.hid hb3
          clear hb3
          go_wp2_with fail
          refine (load_yes g2 0 len c2 a 4 w3 (laidOver (zs.take len) a n 4) (by omega) (by rw [laidOver_length, HL.out]; exact Nat.le_refl _) (fun i hi => by rw [Nat.zero_add]; exact HC3.out.facts.2.2.2.2.2.1 i hi) HX.out (by omega) (by omega) (by omega) (by omega)).mono ?_
          rintro e w4 ⟨rfl, rfl⟩
          rw [show leAt (laidOver (zs.take len) a n 4) (a : Int).toNat (4 : Int).toNat = n % 4294967296 from leAt_laid4 _ a n hn0 (by rw [HL.out]; exact hfit)]
          go_wp2_with fail
          obtain ⟨b0, off, rfl, hlt0, _⟩ := HZ.out.2.2.2.2 (by
            intro h
            have h1 := HL.out
            rw [h] at h1
            simp at h1
            omega)
          have e1 : IntKind.i64.wrap ((a : Int) + 4) = (a : Int) + 4 := IntWalk.i64_in _ (by omega)
          have e2 : ((a : Int) + 4).toNat = a + 4 := by omega
          have hcc := HC2.out.facts.2.2.2.1
          have k1 : ∀ nq, (convert 29 9 (.slice (some ⟨g2, 0, none⟩) a c2)).run Tryd.prog (w3.drewN nq) = .ok (.string (strOfNums ((zs.take len).take a))) (w3.drewN nq) := fun nq => by
            have h := HC3.out.part (P := Tryd.prog) (w' := w3.drewN nq) (fun _ => by simp) 29 9 Tryd.underlying29 Tryd.underlying5 Tryd.underlying9 0 a c2 (by omega)
            rw [List.drop_zero, laidOver_take _ _ _ _ (by rw [HL.out]; exact hfit)] at h
            exact h
          have k2 : ∀ nq, (convert 29 9 (.slice (some ⟨b0, off, none⟩) a cap)).run Tryd.prog (w3.drewN nq) = .ok (.string (strOfNums ((zs.take len).take a))) (w3.drewN nq) := fun nq => by
            have h := HZ.out.part (P := Tryd.prog) (bel_drewN HB3.out nq) 29 9 Tryd.underlying29 Tryd.underlying5 Tryd.underlying9 0 a cap (by omega)
            rw [List.drop_zero] at h
            exact h
          generalize strOfNums ((zs.take len).take a) = S1 at k1 k2
          have ha := and_32 n hn0 hn1
          by_cases hend : len = a + 4
          · have k3 : ∀ (p : Option Addr) (c nq : Nat), (convert 29 9 (.slice p 0 c)).run Tryd.prog (w3.drewN nq) = .ok (.string (strOfNums [])) (w3.drewN nq) := fun p c nq => conv_zero _ _ 5 _ Tryd.underlying29 Tryd.underlying5 Tryd.underlying9 p c
            have e3 : len - (a + 4) = 0 := by omega
            generalize strOfNums [] = S2 at k3
            clear hend
            go_quiet (fail)
            go_wp2_with fail
            go_roundw
            case rel => exact ⟨bel_drewN HB3.out _, by show w1.heap.size < w3.heap.size; omega, ⟨k + 1, by omega, by go_num⟩, fun j hj => by rw [World.cell?_drewN]; exact (HBr.out.cell (p := ⟨w1.heap.size, j, none⟩) hsz).trans (HS.out j hj)⟩
            case measure => simp [intOf]; omega
          · have hc1 : ¬ c2 = a + 4 := by omega
            have hc2 : ¬ cap = a + 4 := by omega
            have k3 : ∀ nq, (convert 29 9 (.slice (some ⟨g2, a + 4, none⟩) (len - (a + 4)) (c2 - (a + 4)))).run Tryd.prog (w3.drewN nq) = .ok (.string (strOfNums (((zs.take len).drop (a + 4)).take (len - (a + 4))))) (w3.drewN nq) := fun nq => by
              have h := HC3.out.part (P := Tryd.prog) (w' := w3.drewN nq) (fun _ => by simp) 29 9 Tryd.underlying29 Tryd.underlying5 Tryd.underlying9 (a + 4) (len - (a + 4)) (c2 - (a + 4)) (by omega)
              rw [laidOver_drop _ _ _ _ (by rw [HL.out]; exact hfit)] at h
              exact h
            have k4 : ∀ nq, (convert 29 9 (.slice (some ⟨b0, off + (a + 4), none⟩) (len - (a + 4)) (cap - (a + 4)))).run Tryd.prog (w3.drewN nq) = .ok (.string (strOfNums (((zs.take len).drop (a + 4)).take (len - (a + 4))))) (w3.drewN nq) := fun nq =>
              HZ.out.part (P := Tryd.prog) (bel_drewN HB3.out nq) 29 9 Tryd.underlying29 Tryd.underlying5 Tryd.underlying9 (a + 4) (len - (a + 4)) (cap - (a + 4)) (by omega)
            generalize strOfNums (((zs.take len).drop (a + 4)).take (len - (a + 4))) = S2 at k3 k4
            clear hend
            go_quiet (fail)
            go_wp2_with fail
            go_roundw
            case rel => exact ⟨bel_drewN HB3.out _, by show w1.heap.size < w3.heap.size; omega, ⟨k + 1, by omega, by go_num⟩, fun j hj => by rw [World.cell?_drewN]; exact (HBr.out.cell (p := ⟨w1.heap.size, j, none⟩) hsz).trans (HS.out j hj)⟩
            case measure => simp [intOf]; omega
        · have hno : a < 0 ∨ (len : Int) < a ∨ len - a < 4 := by omega
          clear hin
          refine (store_no _ _ _ _ 4 _ _ (by omega) (Or.inr hno)).mono ?_
          rintro e w3 ⟨rfl, rfl⟩
          have s1 := HC2.out.str (P := Tryd.prog) 29 9 Tryd.underlying29 Tryd.underlying5 Tryd.underlying9
          have s2 := HZ.out.str (P := Tryd.prog) HB2.out 29 9 Tryd.underlying29 Tryd.underlying5 Tryd.underlying9
          generalize strOfNums (zs.take len) = S1 at s1 s2
          by_cases hneg : a < 0
          · clear hno
            go_wp2_with fail
            go_roundw
            case rel => exact ⟨HB2.out, by omega, ⟨k + 1, by omega, by go_num⟩, fun j hj => (HBq.out.cell (p := ⟨w1.heap.size, j, none⟩) hsz).trans (HS.out j hj)⟩
            case measure => simp [intOf]; omega
          · have hpos : 0 ≤ a := by omega
            clear hneg
            by_cases hge : (len : Int) ≤ a
            · clear hno
              go_wp2_with fail
              go_roundw
              case rel => exact ⟨HB2.out, by omega, ⟨k + 1, by omega, by go_num⟩, fun j hj => (HBq.out.cell (p := ⟨w1.heap.size, j, none⟩) hsz).trans (HS.out j hj)⟩
              case measure => simp [intOf]; omega
            · have hlt2 : a < len := by omega
              have hno2 : (len : Int) - a < 4 := by omega
              clear hno hge
              go_wp2_with fail
              go_roundw
              case rel => exact ⟨HB2.out, by omega, ⟨k + 1, by omega, by go_num⟩, fun j hj => (HBq.out.cell (p := ⟨w1.heap.size, j, none⟩) hsz).trans (HS.out j hj)⟩
              case measure => simp [intOf]; omega
      · by_cases hin : 0 ≤ a ∧ a ≤ len ∧ (8 : Int) ≤ len - a
        · obtain ⟨h0, h1, h2⟩ := hin
          obtain ⟨a, rfl⟩ := Int.eq_ofNat_of_zero_le h0
          have hfit : a + 8 ≤ len := by omega
          refine (store_yes wr.heap.size g2 len c2 a 8 n _ (zs.take len) HC2.out (by omega) (by omega) (by omega) (by omega) (by omega)).mono ?_
          rintro e w3 ⟨rfl, hown3, hgr3⟩
          have hown3' : OwnR w3 wr.heap.size 5 g2 len c2 (laidOver (zs.take len) a n 8) := hown3
          have HC3 := Lib.hid hown3'
          have HB3 := Lib.hid (HB2.out.grown hgr3 HB2.out.size (fun k hk => by injection hk with hk; subst hk; exact Nat.le_trans HR.out.size HC2.out.facts.2.1))
          have HBr := Lib.hid ((HBq.out.grown hgr3 HBq.out.size (fun k hk => by injection hk with hk; subst hk; exact HC2.out.facts.2.1)))
          have hz3 : w2.heap.size ≤ w3.heap.size := hgr3.size
          clear hown3 hown3' hgr3
          have hb3 : ∀ i, 0 ≤ (laidOver (zs.take len) a n 8).getD i 0 ∧ (laidOver (zs.take len) a n 8).getD i 0 ≤ 255 := fun i => by
            rw [laidOver_get _ _ _ _ _ (by rw [HL.out]; exact hfit)]
            split
            · exact byteAt_bd _ _
            · exact bytes_wf (take_wf (m := len) (HZ.out.2.2.2.1)) i
          have HX := Lib.hid hb3
          clear hb3
          go_wp2_with fail
          refine (load_yes g2 0 len c2 a 8 w3 (laidOver (zs.take len) a n 8) (by omega) (by rw [laidOver_length, HL.out]; exact Nat.le_refl _) (fun i hi => by rw [Nat.zero_add]; exact HC3.out.facts.2.2.2.2.2.1 i hi) HX.out (by omega) (by omega) (by omega) (by omega)).mono ?_
          rintro e w4 ⟨rfl, rfl⟩
          rw [show leAt (laidOver (zs.take len) a n 8) (a : Int).toNat (8 : Int).toNat = n from leAt_laid8 _ a n hn0 hn1 (by rw [HL.out]; exact hfit)]
          go_wp2_with fail
          obtain ⟨b0, off, rfl, hlt0, _⟩ := HZ.out.2.2.2.2 (by
            intro h
            have h1 := HL.out
            rw [h] at h1
            simp at h1
            omega)
          have e1 : IntKind.i64.wrap ((a : Int) + 8) = (a : Int) + 8 := IntWalk.i64_in _ (by omega)
          have e2 : ((a : Int) + 8).toNat = a + 8 := by omega
          have hcc := HC2.out.facts.2.2.2.1
          have k1 : ∀ nq, (convert 29 9 (.slice (some ⟨g2, 0, none⟩) a c2)).run Tryd.prog (w3.drewN nq) = .ok (.string (strOfNums ((zs.take len).take a))) (w3.drewN nq) := fun nq => by
            have h := HC3.out.part (P := Tryd.prog) (w' := w3.drewN nq) (fun _ => by simp) 29 9 Tryd.underlying29 Tryd.underlying5 Tryd.underlying9 0 a c2 (by omega)
            rw [List.drop_zero, laidOver_take _ _ _ _ (by rw [HL.out]; exact hfit)] at h
            exact h
          have k2 : ∀ nq, (convert 29 9 (.slice (some ⟨b0, off, none⟩) a cap)).run Tryd.prog (w3.drewN nq) = .ok (.string (strOfNums ((zs.take len).take a))) (w3.drewN nq) := fun nq => by
            have h := HZ.out.part (P := Tryd.prog) (bel_drewN HB3.out nq) 29 9 Tryd.underlying29 Tryd.underlying5 Tryd.underlying9 0 a cap (by omega)
            rw [List.drop_zero] at h
            exact h
          generalize strOfNums ((zs.take len).take a) = S1 at k1 k2
          by_cases hend : len = a + 8
          · have k3 : ∀ (p : Option Addr) (c nq : Nat), (convert 29 9 (.slice p 0 c)).run Tryd.prog (w3.drewN nq) = .ok (.string (strOfNums [])) (w3.drewN nq) := fun p c nq => conv_zero _ _ 5 _ Tryd.underlying29 Tryd.underlying5 Tryd.underlying9 p c
            have e3 : len - (a + 8) = 0 := by omega
            generalize strOfNums [] = S2 at k3
            clear hend
            go_quiet (fail)
            go_wp2_with fail
            go_roundw
            case rel => exact ⟨bel_drewN HB3.out _, by show w1.heap.size < w3.heap.size; omega, ⟨k + 1, by omega, by go_num⟩, fun j hj => by rw [World.cell?_drewN]; exact (HBr.out.cell (p := ⟨w1.heap.size, j, none⟩) hsz).trans (HS.out j hj)⟩
            case measure => simp [intOf]; omega
          · have hc1 : ¬ c2 = a + 8 := by omega
            have hc2 : ¬ cap = a + 8 := by omega
            have k3 : ∀ nq, (convert 29 9 (.slice (some ⟨g2, a + 8, none⟩) (len - (a + 8)) (c2 - (a + 8)))).run Tryd.prog (w3.drewN nq) = .ok (.string (strOfNums (((zs.take len).drop (a + 8)).take (len - (a + 8))))) (w3.drewN nq) := fun nq => by
              have h := HC3.out.part (P := Tryd.prog) (w' := w3.drewN nq) (fun _ => by simp) 29 9 Tryd.underlying29 Tryd.underlying5 Tryd.underlying9 (a + 8) (len - (a + 8)) (c2 - (a + 8)) (by omega)
              rw [laidOver_drop _ _ _ _ (by rw [HL.out]; exact hfit)] at h
              exact h
            have k4 : ∀ nq, (convert 29 9 (.slice (some ⟨b0, off + (a + 8), none⟩) (len - (a + 8)) (cap - (a + 8)))).run Tryd.prog (w3.drewN nq) = .ok (.string (strOfNums (((zs.take len).drop (a + 8)).take (len - (a + 8))))) (w3.drewN nq) := fun nq =>
              HZ.out.part (P := Tryd.prog) (bel_drewN HB3.out nq) 29 9 Tryd.underlying29 Tryd.underlying5 Tryd.underlying9 (a + 8) (len - (a + 8)) (cap - (a + 8)) (by omega)
            generalize strOfNums (((zs.take len).drop (a + 8)).take (len - (a + 8))) = S2 at k3 k4
            clear hend
            go_quiet (fail)
            go_wp2_with fail
            go_roundw
            case rel => exact ⟨bel_drewN HB3.out _, by show w1.heap.size < w3.heap.size; omega, ⟨k + 1, by omega, by go_num⟩, fun j hj => by rw [World.cell?_drewN]; exact (HBr.out.cell (p := ⟨w1.heap.size, j, none⟩) hsz).trans (HS.out j hj)⟩
            case measure => simp [intOf]; omega
        · have hno : a < 0 ∨ (len : Int) < a ∨ len - a < 8 := by omega
          clear hin
          refine (store_no _ _ _ _ 8 _ _ (by omega) (Or.inr hno)).mono ?_
          rintro e w3 ⟨rfl, rfl⟩
          have s1 := HC2.out.str (P := Tryd.prog) 29 9 Tryd.underlying29 Tryd.underlying5 Tryd.underlying9
          have s2 := HZ.out.str (P := Tryd.prog) HB2.out 29 9 Tryd.underlying29 Tryd.underlying5 Tryd.underlying9
          generalize strOfNums (zs.take len) = S1 at s1 s2
          by_cases hneg : a < 0
          · clear hno
            go_wp2_with fail
            go_roundw
            case rel => exact ⟨HB2.out, by omega, ⟨k + 1, by omega, by go_num⟩, fun j hj => (HBq.out.cell (p := ⟨w1.heap.size, j, none⟩) hsz).trans (HS.out j hj)⟩
            case measure => simp [intOf]; omega
          · have hpos : 0 ≤ a := by omega
            clear hneg
            by_cases hge : (len : Int) ≤ a
            · clear hno
              go_wp2_with fail
              go_roundw
              case rel => exact ⟨HB2.out, by omega, ⟨k + 1, by omega, by go_num⟩, fun j hj => (HBq.out.cell (p := ⟨w1.heap.size, j, none⟩) hsz).trans (HS.out j hj)⟩
              case measure => simp [intOf]; omega
            · have hlt2 : a < len := by omega
              have hno2 : (len : Int) - a < 8 := by omega
              clear hno hge
              go_wp2_with fail
              go_roundw
              case rel => exact ⟨HB2.out, by omega, ⟨k + 1, by omega, by go_num⟩, fun j hj => (HBq.out.cell (p := ⟨w1.heap.size, j, none⟩) hsz).trans (HS.out j hj)⟩
              case measure => simp [intOf]; omega
    · go_wp2
      go_ret
      exact ⟨rfl, HR.out⟩
theorem wireBack_walk (a0 : Option Addr) (len cap : Nat) (zs : List Int) (a n : Int) (w : World) (hz : IsRow .u8 w a0 len cap zs) (ha : (Lit.int .i64 a).wf = true) (hn : (Lit.int .u64 n).wf = true) (hT : Tabs w) :
    Calls Tryd.prog 5 #[.slice a0 len cap, .int .i64 a, .int .u64 n] w fun e w' => e = .returned (.bool true) ∧ Below w.heap.size w w' := by
  have ba := bounds_i64 ha
  have bn := bounds_u64 hn
  by_cases hbig : (len : Int) ≤ 1000
  · exact back_small a0 len cap zs a n w hz hbig ba.1 ba.2 bn.1 (by omega) hT
  · have hbig' : (1000 : Int) < len := by omega
    have HA := Lib.hid (awake_any w hT)
    clear hz hT hbig ha hn ba bn
    go_enter Tryd.func5, Tryd.ntmps5
    go_wp2_with fail
    refine HA.out.mono ?_
    rintro e w1 ⟨rfl, hb⟩
    go_wp2_with fail
    go_ret
    exact ⟨rfl, hb⟩
end Go.Proofs.YtjnpfjiphhnoiaaDoor
