/-
  The law WireParts returns true at all bytes and numbers: a walk over the callees' contracts. Condition: the library's tables hold what the row lists.
-/
import Derived.Test.YtjnpfjiphhnoiaaDoorAwake
import Derived.Test.YtjnpfjiphhnoiaaDoorApp
import Derived.Test.YtjnpfjiphhnoiaaDoorPart
import Derived.Test.YtjnpfjiphhnoiaaDoorQuiet
namespace Go.Proofs.YtjnpfjiphhnoiaaDoor
open Go.ChangeShapes Go.WideShapes Go.ChangeAt Go.RowKit
theorem row_cell {zs : List Int} {len k n i : Nat} (hk : k + n ≤ len) (hi : i < n) : (some (Value.int .u8 (zs.getD (k + i) 0))) = some (Value.int .u8 ((((zs.take len).drop k).take n).getD i 0)) := by
  have h1 : k + i < len := by omega
  simp [List.getD, hi, h1]
theorem part_cell {zs more : List Int} {len k n i : Nat} (hz : len ≤ zs.length) (hk : k + n ≤ len) (hi : i < n) : (some (Value.int .u8 (([] ++ zs.take len ++ more).getD (k + i) 0))) = some (Value.int .u8 ((((zs.take len).drop k).take n).getD i 0)) := by
  have h1 : k + i < len := by omega
  have h2 : k + i < (zs.take len).length := by simp; omega
  have h3 : k + i < zs.length := by omega
  simp [List.getD, hi, h1, List.getElem?_append_left h2]
set_option maxRecDepth 100000 in
set_option maxHeartbeats 1000000 in
theorem wireParts_walk (a : Option Addr) (len cap : Nat) (zs : List Int) (k n most : Int) (w : World) (hz : IsRow .u8 w a len cap zs) (hk : (Lit.int .i64 k).wf = true) (hn : (Lit.int .i64 n).wf = true) (hmo : (Lit.int .i64 most).wf = true) (hT : Tabs w) :
    Calls Tryd.prog 6 #[.slice a len cap, .int .i64 k, .int .i64 n, .int .i64 most] w fun e w' => e = .returned (.bool true) ∧ Below w.heap.size w w' := by
  have HA := Lib.hid (awake_any w hT)
  have HZ := Lib.hid hz
  have bk := bounds_i64 hk
  have bn := bounds_i64 hn
  have bm := bounds_i64 hmo
  obtain ⟨hl, hm, hzl, hwf, hp⟩ := hz
  unfold maxLen at hm
  have HL := Lib.hid (show (zs.take len).length = len by simp; omega)
  clear hT hwf hzl hk hn hmo hp
  by_cases hbig : (1000 : Int) < len
  · go_enter Tryd.func6, Tryd.ntmps6
    go_wp2_with fail
    refine HA.out.mono ?_
    rintro e w1 ⟨rfl, hb⟩
    go_wp2_with fail
    go_ret
    exact ⟨rfl, hb⟩
  · obtain ⟨i0, hi0, hz0, hz1, hz2⟩ := info_parts u8_info
    have I1 := Lib.hid hi0
    have I2 := Lib.hid hz0
    have I3 := Lib.hid hz1
    have I4 := Lib.hid hz2
    clear hi0 hz0 hz1 hz2
    go_enter Tryd.func6, Tryd.ntmps6
    go_wp2_with fail
    refine HA.out.mono ?_
    rintro e w1 ⟨rfl, hb⟩
    have HB := Lib.hid hb
    clear hb
    go_wp2_with (first | (at_make; refine wpList_make_own _ rfl _ _ 29 rfl w1.heap.size 5 i0 (.int .u8 0) 1 Tryd.underlying29 I1.out I2.out I3.out .i64 .i64 _ (len + 9) rfl rfl (by omega) (by rw [I4.out]; omega) (by unfold maxLen; omega) (Nat.le_refl _) ?_; intro w2 hown2 hg2) | (at_builtin; refine wpList_app_u8 rfl (.tmp 22) (.tmp 23) 29 29 rfl w1.heap.size 5 i0 (.int .u8 0) Tryd.underlying29 I1.out I2.out I3.out I4.out rfl w1.heap.size 0 (len + 9) [] rfl hown2 (.slice a len cap) len (zs.take len) rfl ((HZ.out.src (HB.out.trans (((Below.refl _ _).grown hg2 (Nat.le_refl _) (by simp)).mono HB.out.size))).toSrc Tryd.underlying29) (by omega) (by exact hg2.size) ?_; intro g3 c3 w3 hown3 hb3) | (at_builtin; refine wpList_app_u8 rfl (.tmp 24) (.const (.string ⟨#[98, 101, 104, 105, 110, 100]⟩)) 29 9 rfl w1.heap.size 5 i0 (.int .u8 0) Tryd.underlying29 I1.out I2.out I3.out I4.out rfl g3 (0 + len) c3 _ rfl hown3 _ 6 _ rfl (srcStr Tryd.underlying9 _) (by omega) (by exact Nat.le_trans hg2.size hb3.size) ?_; intro g4 c4 w4 hown4 hb4; have hc4' : len ≤ c4 := by have := hown4.facts.2.2.2.1; omega))
    have hb4' := HB.out.trans ((((Below.refl _ w1).grown hg2 (Nat.le_refl _) (by simp)).trans (hb3.trans hb4)).mono HB.out.size)
    have HB4 := Lib.hid hb4'
    obtain ⟨hl4, _, hg4, hc4, hm4, hcell4, _⟩ := hown4.facts
    have HC4 := Lib.hid hcell4
    have HL4 := Lib.hid hl4
    clear hown2 hg2 hown3 hb3 hown4 hb4 hb4' hcell4 hl4
    by_cases hin : 0 ≤ k ∧ 0 ≤ n ∧ k ≤ len ∧ n ≤ len - k
    · obtain ⟨hk0, hn0, hkl, hnl⟩ := hin
      obtain ⟨k, rfl⟩ := Int.eq_ofNat_of_zero_le hk0
      obtain ⟨n, rfl⟩ := Int.eq_ofNat_of_zero_le hn0
      refine (part_yes g4 0 len c4 k n w4 (by omega) (by omega) hk0 hn0 hkl hnl).mono ?_
      rintro e w5 ⟨⟨o, rfl, ho⟩, rfl⟩
      rw [Int.toNat_natCast, Int.toNat_natCast] at *
      go_wp2_with fail
      have e1 : IntKind.i64.wrap ((k : Int) + (n : Int)) = (k : Int) + (n : Int) := IntWalk.i64_in _ (by omega)
      have e2 : ((k : Int) + (n : Int)).toNat = k + n := by omega
      by_cases hn1 : n = 0
      · subst hn1
        have hz1 : ∀ (p : Option Addr) (c nq : Nat), (convert 29 9 (.slice p 0 c)).run Tryd.prog (w4.drewN nq) = .ok (.string (strOfNums [])) (w4.drewN nq) := fun p c nq => conv_zero _ _ 5 _ Tryd.underlying29 Tryd.underlying5 Tryd.underlying9 p c
        go_quiet ((go_at_call 16; exact quiet_same (rwithin_yes _ _ _ _ (by omega) hk0 hn0 hnl)))
        by_cases hy1 : most < k
        · go_wp2_with fail
          refine (next_no k 0 most _ (by omega) bm.2).mono ?_
          rintro e w6 ⟨rfl, rfl⟩
          go_wp2
          all_goals
            go_ret
            exact ⟨rfl, bel_drewN HB4.out _⟩
        · have hy2 : ¬ most - (k : Int) < 0 := by omega
          go_wp2_with fail
          refine (next_yes k 0 most _ hk0 (by decide) (by omega) (by omega) bm.2).mono ?_
          rintro e w6 ⟨rfl, rfl⟩
          go_wp2
          all_goals
            go_ret
            exact ⟨rfl, bel_drewN HB4.out _⟩
      · have hne : zs ≠ [] := by
          intro h
          have := HL.out
          rw [h] at this
          simp at this
          omega
        obtain ⟨_, _, hzl, _, hp⟩ := HZ.out
        obtain ⟨b0, off, rfl, hb0, hc0⟩ := hp hne
        obtain rfl : k = o := ((ho (by omega)).trans (Nat.zero_add k)).symm
        have hxl : (((zs.take len).drop k).take n).length = n := by simp; omega
        have hz1 : ∀ (nq : Nat), (convert 29 9 (.slice (some ⟨g4, k, none⟩) n n)).run Tryd.prog (w4.drewN nq) = .ok (.string (strOfNums (((zs.take len).drop k).take n))) (w4.drewN nq) := fun nq =>
          run_convert_bytes_arg (P := Tryd.prog) (w4.drewN nq) 29 5 Tryd.underlying29 Tryd.underlying5 g4 k n n _ hxl (fun i hi => by
            rw [World.cell?_drewN, HC4.out (k + i) (by rw [HL4.out]; omega), part_cell (by omega) (by omega) hi]) 9 Tryd.underlying9
        have hz2 : ∀ (nq : Nat), (convert 29 9 (.slice (some ⟨b0, off + k, none⟩) n (cap - k))).run Tryd.prog (w4.drewN nq) = .ok (.string (strOfNums (((zs.take len).drop k).take n))) (w4.drewN nq) := fun nq =>
          run_convert_bytes_arg (P := Tryd.prog) (w4.drewN nq) 29 5 Tryd.underlying29 Tryd.underlying5 b0 (off + k) n (cap - k) _ hxl (fun i hi => by
            rw [World.cell?_drewN, Nat.add_assoc, HB4.out.cell (p := ⟨b0, off + (k + i), none⟩) hb0, hc0 (k + i) (by omega), row_cell (len := len) (n := n) (by omega) hi]) 9 Tryd.underlying9
        generalize strOfNums (((zs.take len).drop k).take n) = S at hz1 hz2
        have hcap : ¬ cap = k := by omega
        clear hc0 hp hzl hxl
        go_quiet ((go_at_call 16; exact quiet_same (rwithin_yes _ _ _ _ (by omega) hk0 hn0 hnl)))
        by_cases hy1 : most < k
        · go_wp2_with fail
          refine (next_no k n most _ (by omega) bm.2).mono ?_
          rintro e w6 ⟨rfl, rfl⟩
          go_wp2
          go_ret
          exact ⟨rfl, bel_drewN HB4.out _⟩
        · by_cases hy2 : most - k < n
          · go_wp2_with fail
            refine (next_no k n most _ (by omega) bm.2).mono ?_
            rintro e w6 ⟨rfl, rfl⟩
            go_wp2
            go_ret
            exact ⟨rfl, bel_drewN HB4.out _⟩
          · go_wp2_with fail
            refine (next_yes k n most _ hk0 hn0 (by omega) (by omega) bm.2).mono ?_
            rintro e w6 ⟨rfl, rfl⟩
            go_wp2
            go_ret
            exact ⟨rfl, bel_drewN HB4.out _⟩
    · have hin' : k < 0 ∨ n < 0 ∨ (len : Int) < k ∨ len - k < n := by omega
      clear hin
      refine (part_no _ len c4 k n w4 (by omega) (by omega)).mono ?_
      rintro e w5 ⟨rfl, rfl⟩
      go_wp2_with fail
      go_quiet ((go_at_call 16; exact quiet_same (rwithin_no _ _ _ _ (by omega) (by omega) (by omega))))
      clear hin'
      by_cases hy0 : k < 0
      · go_wp2_with fail
        refine (next_no k n most _ (by omega) bm.2).mono ?_
        rintro e w6 ⟨rfl, rfl⟩
        go_wp2
        go_ret
        exact ⟨rfl, bel_drewN HB4.out _⟩
      by_cases hyn : n < 0
      · go_wp2_with fail
        refine (next_no k n most _ (by omega) bm.2).mono ?_
        rintro e w6 ⟨rfl, rfl⟩
        go_wp2
        go_ret
        exact ⟨rfl, bel_drewN HB4.out _⟩
      by_cases hy1 : most < k
      · go_wp2_with fail
        refine (next_no k n most _ (by omega) bm.2).mono ?_
        rintro e w6 ⟨rfl, rfl⟩
        go_wp2
        go_ret
        exact ⟨rfl, bel_drewN HB4.out _⟩
      by_cases hy2 : most - k < n
      · go_wp2_with fail
        refine (next_no k n most _ (by omega) bm.2).mono ?_
        rintro e w6 ⟨rfl, rfl⟩
        go_wp2
        go_ret
        exact ⟨rfl, bel_drewN HB4.out _⟩
      · go_wp2_with fail
        refine (next_yes k n most _ (by omega) (by omega) (by omega) (by omega) bm.2).mono ?_
        rintro e w6 ⟨rfl, rfl⟩
        have e1 : IntKind.i64.wrap (k + n) = k + n := IntWalk.i64_in _ (by omega)
        go_wp2
        go_ret
        exact ⟨rfl, bel_drewN HB4.out _⟩
end Go.Proofs.YtjnpfjiphhnoiaaDoor
