/-
  The law ScanSigns by a walk of its text: at every input it returns true. Condition: the library's tables and its variable ErrRange hold what the row lists.
-/
import Derived.Test.YtneadcbadnicfaaDoorSnO
import Derived.Test.YtneadcbadnicfaaDoorSrW
import Derived.Deep.RegionLaw
namespace Go.Proofs.YtneadcbadnicfaaDoor
open Go.ChangeShapes Go.WideShapes Go.ChangeAt Go.RowKit Go.Shelf

/-- A slice of texts that came in. -/
def IsStrs (w : World) (a : Option Addr) (len cap : Nat) (Sx : Nat → ByteArray) : Prop :=
  len ≤ cap ∧ cap ≤ maxLen ∧ (0 < len → ∃ b off, a = some ⟨b, off, none⟩ ∧ b < w.heap.size ∧ ∀ i, i < len → w.cell? ⟨b, off + i, none⟩ = some (.string (Sx i)))
set_option maxHeartbeats 1600000 in
set_option maxRecDepth 20000 in
set_option maxHeartbeats 1600000 in
theorem scanSigns_walk (a1 : Option Addr) (len cap : Nat) (z1 : List Int) (x : Int) (a2 : Option Addr) (len2 cap2 : Nat) (Sx : Nat → ByteArray) (w : World) (h1 : IsRow .u8 w a1 len cap z1) (_hx : (Lit.int .i64 x).wf = true) (h2 : IsStrs w a2 len2 cap2 Sx) (hT : Tabs w) (hE : ErrV w) :
    Calls Tryd.prog 6 #[.slice a1 len cap, .int .i64 x, .slice a2 len2 cap2] w fun e w' => e = .returned (.bool true) ∧ Below w.heap.size w w' := by
  have HA := Lib.hid (awake13_any w hT hE)
  have HZ := Lib.hid (row_bytes h1)
  have hcl := h1.1
  have hcm := h1.2.1
  have H2 := Lib.hid h2
  clear hT hE h1 h2 _hx
  by_cases hbig : (3000 : Int) < (len : Int)
  · go_enter Tryd.func6, Tryd.ntmps6
    go_wp2_with fail
    refine HA.out.mono ?_
    rintro e w1 ⟨rfl, hb1⟩
    go_wp2
    go_ret
    exact ⟨rfl, hb1⟩
  · obtain ⟨i0, hi0, hzz0, hzz1, hzz2⟩ := info_parts u8_info
    have I1 := Lib.hid hi0
    have I2 := Lib.hid hzz0
    have I3 := Lib.hid hzz1
    have I4 := Lib.hid hzz2
    clear hi0 hzz0 hzz1 hzz2
    go_enter Tryd.func6, Tryd.ntmps6
    go_wp2_with fail
    refine HA.out.mono ?_
    rintro e w1 ⟨rfl, hb1⟩
    have HB1 := Lib.hid hb1
    have HN := Lib.hid (own_none w1)
    have HS := Lib.hid (src_u8 (HZ.out.1.below (Nat.le_refl _) hb1) HZ.out.2 ((Below.refl w1.heap.size w1).alloc (Nat.le_refl _) (.cells #[] 5)) cap)
    clear hb1
    go_wp2_with (at_builtin; refine wpList_append_first _ rfl (.tmp 18) (.tmp 19) 22 22 rfl w1.heap.size 5 i0 _ 1 Tryd.underlying22 I1.out I2.out I3.out rfl _ rfl HN.out _ len ((z1.take len).map (Value.int .u8)) rfl HS.out (by unfold maxLen; omega) (by rw [I4.out]; omega) (by simp) ?_; intro v4 W2 hown4 hg4 hat4; clear hat4; obtain ⟨a4, m4, rfl⟩ := ownsRow_form hown4)
    obtain ⟨q1, q2, q3, q4⟩ := copied HZ.out.2 (bytes_mem HZ.out.1) hown4 hg4
    have HB2 := Lib.hid (HB1.out.trans (q4.mono HB1.out.size))
    have HQ2 := Lib.hid q2
    have HQ3 := Lib.hid q3
    clear hown4 hg4 q2 q3 q4
    refine (open_any a4 len m4 (z1.take len) x W2 HQ2.out HZ.out.2 q1 (by omega) (fun q hq => (HQ3.out q hq).2)).mono ?_
    rintro e w3 ⟨rfl, h3, hb3⟩
    have H3 := Lib.hid h3
    have HB3 := Lib.hid hb3
    have hs3 := blk_lt h3.blk
    clear h3 hb3
    have cm := clamp_min x len
    have hca := clampZ_le x len
    generalize clampZ x len = a at cm hca H3
    go_upto_region 7 with (fail)
    have HD := Lib.hid (duo_start HB2.out H3.out HB3.out HZ.out.1 hcl hca (fun q hq => (HQ3.out q hq).2) (by omega))
    clear cm H3 HB3 HB2 hs3 HQ2 HQ3 q1 HN HS I1 I2 I3 I4 HB1
    generalize w3.alloc (.cells #[.slice none 0 0, .slice none 0 0, .int .i64 0, .slice a1 len cap, .int .i64 (a : Nat), .bool false] 32) = W4 at *
    generalize W2.heap.size + 1 = s at HD ⊢
    generalize W2.heap.size = mb at HD
    generalize w3.heap.size = r at HD ⊢
    generalize z1.take len = zs at HD HZ
    obtain ⟨hr, c3, c4, f3, f4⟩ := rd6 HD.out.rd
    have HAT := Lib.hid (fun k => sc_at s mb _ _ _ _ _ _ _ (HD.out.sc.below (bel_drewN (Below.refl _ _) k)))
    go_quiet (first | (go_at_call 13; exact quiet_same (HAT.out _)))
    go_wp2
    generalize 1099511627776 + a = K at HD
    go_loopw [40] (fun i wr => ∃ k b : Nat, k ≤ len2 ∧ i = .int .i64 k ∧ b ≤ len ∧ Duo w wr s mb r a4 a1 len m4 cap K zs b b) (fun i _ => len2 - (intOf i).toNat)
    case atStart => exact ⟨0, a, Nat.zero_le _, rfl, hca, HD.out.below (bel_drewN (Below.refl _ _) _)⟩
    case round =>
      obtain ⟨k, b, hk, rfl, hb, hd⟩ := hrel
      have HK := Lib.hid hd
      clear hd HD c3 c4 f3 f4 hr HAT
      by_cases hkl : k < len2
      · obtain ⟨bb, off, rfl, hbb, hcs⟩ := H2.out.2.2 (by omega)
        have hcell := (HK.out.bel.cell (p := ⟨bb, off + k, none⟩) hbb).trans (hcs k hkl)
        generalize Sx k = t at hcell
        clear hcs
        by_cases hk1 : (100 : Int) < (k : Int)
        · go_wp2
          go_ret
          exact ⟨rfl, HK.out.bel⟩
        by_cases hk2 : (100 : Int) < (t.size : Int)
        · go_wp2
          go_ret
          exact ⟨rfl, HK.out.bel⟩
        by_cases hk3 : t.size = 1
        · obtain ⟨z, rfl⟩ : ∃ z : UInt8, t = ⟨#[z]⟩ := by
            obtain ⟨⟨l⟩⟩ := t
            match l, hk3 with
            | [z], _ => exact ⟨z, rfl⟩
          have h0 : (0 : Int) ≤ (z.toNat : Int) := by omega
          have h255 : (z.toNat : Int) ≤ 255 := by have := z.toNat_lt; omega
          have HKD := Lib.hid (HK.out.below (Below.refl wr.heap.size wr).drew)
          have SG := Lib.hid (sign_any s mb _ _ _ _ _ b (z.toNat : Int) _ HKD.out.sc)
          have RG := Lib.hid (fun W h => rsign_any r (.slice none 0 0) (.slice none 0 0) (.int .i64 0) a1 len cap zs (.bool false) b (z.toNat : Int) h0 W h)
          have hle : (if stA zs (isC (z.toNat : Int)) (runTo zs isBlank b) = true then runTo zs isBlank b + 1 else runTo zs isBlank b) ≤ len := by
            have hl := HZ.out.2
            have := runTo_le zs isBlank b (by omega)
            split
            · rename_i h; have := stA_lt h; omega
            · omega
          generalize (if stA zs (isC (z.toNat : Int)) (runTo zs isBlank b) = true then runTo zs isBlank b + 1 else runTo zs isBlank b) = b2 at SG RG hle
          generalize stA zs (isC (z.toNat : Int)) (runTo zs isBlank b) = o at SG RG
          have wz := IntWalk.i64_in (z.toNat : Int) ⟨by omega, by omega⟩
          have hz0 : (⟨#[z]⟩ : ByteArray)[0] = z := rfl
          go_wp2
          go_region_law (first | (go_simp; go_at_call 16; (with_reducible refine SG.out.mono ?_); rintro e Wa ⟨rfl, hA⟩; have HA2 := Lib.hid (HKD.out.left hA); clear hA) | (go_simp; go_at_call 17; (with_reducible refine (RG.out Wa HA2.out.rd).mono ?_); rintro e Wb ⟨rfl, hB⟩; have HB2 := Lib.hid (HA2.out.right hB); clear hB))
          all_goals
            simp only [Exit.then]
            obtain ⟨hr, c3, c4, f3, f4⟩ := rd6 HB2.out.rd
            have HAT := Lib.hid (fun k => sc_at s mb _ _ _ _ _ _ _ (HB2.out.sc.below (bel_drewN (Below.refl _ _) k)))
            go_wp2
            go_quiet (first | (go_at_call 13; exact quiet_same (HAT.out _)))
            go_wp2
            go_roundw
            case rel => exact ⟨k + 1, b2, by omega, by go_num, hle, HB2.out.below (bel_drewN (Below.refl _ _) _)⟩
            case measure => simp [intOf]; omega
        · have t1 : ((t.size : Int) == 1) = false := by simp; omega
          have WG := Lib.hid (word_any s mb _ _ _ _ _ b t _ (by omega) HK.out.sc)
          have RG := Lib.hid (fun W h => rword_any r (.slice none 0 0) (.slice none 0 0) (.int .i64 0) a1 len cap zs (.bool false) b t W (by omega) hb h)
          have hle : (if wordB zs (runTo zs isBlank b) (bts t) = true then runTo zs isBlank b + t.size else runTo zs isBlank b) ≤ len := by
            have hl := HZ.out.2
            have h2 := runTo_le zs isBlank b (by omega)
            split
            · rename_i h; have := wordB_le h h2; rw [bts_length] at this; omega
            · omega
          generalize (if wordB zs (runTo zs isBlank b) (bts t) = true then runTo zs isBlank b + t.size else runTo zs isBlank b) = b2 at WG RG hle
          generalize wordB zs (runTo zs isBlank b) (bts t) = o at WG RG
          go_wp2_with fail
          refine WG.out.mono ?_
          rintro e w5 ⟨rfl, h5⟩
          have HA2 := Lib.hid (HK.out.left h5)
          clear h5
          go_wp2_with fail
          refine (RG.out _ HA2.out.rd).mono ?_
          rintro e w6 ⟨rfl, h6⟩
          have HB2 := Lib.hid (HA2.out.right h6)
          clear h6
          obtain ⟨hr, c3, c4, f3, f4⟩ := rd6 HB2.out.rd
          have HAT := Lib.hid (fun k => sc_at s mb _ _ _ _ _ _ _ (HB2.out.sc.below (bel_drewN (Below.refl _ _) k)))
          go_wp2
          go_quiet (first | (go_at_call 13; exact quiet_same (HAT.out _)))
          go_wp2
          go_roundw
          case rel => exact ⟨k + 1, b2, by omega, by go_num, hle, HB2.out.below (bel_drewN (Below.refl _ _) _)⟩
          case measure => simp [intOf]; omega
      · obtain rfl : len2 = k := by omega
        have B1 := Lib.hid (rblank_any r _ _ _ _ _ _ _ _ b _ HK.out.rd)
        have EN := Lib.hid (fun W h => sc_end s mb a4 len m4 K zs b W h)
        have e1 : ((runTo zs isBlank b : Nat) : Int) = (len : Int) ↔ runTo zs isBlank b = zs.length := by have := HZ.out.2; omega
        have e2 : (((runTo zs isBlank b : Nat) : Int) == (len : Int)) = decide (runTo zs isBlank b = zs.length) := by rw [Bool.eq_iff_iff, beq_iff_eq, decide_eq_true_iff]; exact e1
        clear e1
        generalize runTo zs isBlank b = b3 at B1 EN e2
        go_wp2_with fail
        refine B1.out.mono ?_
        rintro e w5 ⟨rfl, h5⟩
        have HA2 := Lib.hid (HK.out.right h5)
        obtain ⟨hr, c3, c4, f3, f4⟩ := rd6 HA2.out.rd
        have HAD := Lib.hid (HA2.out.below (Below.refl w5.heap.size w5).drew)
        clear h5
        generalize decide (b3 = zs.length) = o2 at e2 EN
        go_wp2
        go_region_law (first | (go_simp; go_at_call 21; (with_reducible refine (EN.out w5.drew HAD.out.sc).mono ?_); rintro e Wb ⟨rfl, hB⟩; have HB2 := Lib.hid (HAD.out.left hB); obtain ⟨_, _, d4, _, _⟩ := rd6 HB2.out.rd; clear hB))
        all_goals
          simp only [Exit.then]
          go_wp2
          go_ret
          exact ⟨rfl, HB2.out.bel⟩
end Go.Proofs.YtneadcbadnicfaaDoor
