/-
  The law ScanHex by a walk of its text: at every input it returns true. Condition: the library's tables and its variable ErrRange hold what the row lists.
-/
import Derived.Test.YtneadcbadnicfaaDoorSrU
import Derived.Deep.RegionLaw
namespace Go.Proofs.YtneadcbadnicfaaDoor
open Go.ChangeShapes Go.WideShapes Go.ChangeAt Go.RowKit Go.Shelf

/-- A digit's place, if it stands before place k. -/
def seenZ (o : Option Nat) (k : Int) : Int := match o with
  | none => -1
  | some d => if (d : Int) < k then d else -1
theorem hexC_hexD {c : Int} {d : Nat} (h : hexD c = some d) : hexC d = c := by
  unfold hexD at h
  split at h
  · injection h with h
    subst h
    unfold hexC
    split <;> omega
  · split at h
    · injection h with h
      subst h
      unfold hexC
      split <;> omega
    · cases h
theorem seen_hit {c k : Int} (h0 : 0 ≤ k) (h1 : k < 16) (h : hexC k = c) : seenZ (hexD c) (k + 1) = k := by
  subst h
  rw [hexD_hexC h0 h1]
  unfold seenZ
  simp only
  rw [if_pos (by omega)]
  omega
theorem seen_miss {c k : Int} (h : ¬ hexC k = c) : seenZ (hexD c) (k + 1) = seenZ (hexD c) k := by
  cases hd : hexD c with
  | none => rfl
  | some d =>
    have := hexC_hexD hd
    have hk : ¬ (d : Int) = k := fun e => h (by rw [← e]; exact this)
    unfold seenZ
    simp only
    by_cases h2 : (d : Int) < k
    · rw [if_pos (by omega), if_pos h2]
    · rw [if_neg (by omega), if_neg h2]
theorem seen_end (c : Int) : seenZ (hexD c) 16 = optZ (hexD c) := by
  cases hd : hexD c with
  | none => rfl
  | some d =>
    have := hexD_lt hd
    unfold seenZ optZ
    simp only
    rw [if_pos (by omega)]
theorem seen_zero (o : Option Nat) : seenZ o 0 = -1 := by
  cases o with
  | none => rfl
  | some d => unfold seenZ; simp only; rw [if_neg (by omega)]
/-- What Undigits leaves, said in one form. -/
theorem und_form {w w' : World} {o : Option (List Int)} {e : Ending} (h : UndPost w o e w') : ∃ xv er, e = .returned (.tuple #[xv, .int .i64 er]) ∧ ((∃ T g, o = some T ∧ xv = .slice (some ⟨g, 0, none⟩) T.length T.length ∧ er = 0 ∧ w'.heap[g]? = some (.cells (T.map (Value.int .u8)).toArray 5 (0, 0))) ∨ (o = none ∧ xv = .slice none 0 0 ∧ er = 20)) ∧ Below w.heap.size w w' := by
  rcases h with ⟨⟨T, g, rfl, rfl, h1, _⟩ | ⟨rfl, rfl⟩, hb⟩
  · exact ⟨_, _, rfl, .inl ⟨T, g, rfl, rfl, rfl, h1⟩, hb⟩
  · exact ⟨_, _, rfl, .inr ⟨rfl, rfl, rfl⟩, hb⟩
theorem rund_form {w w' : World} {o : Option (List Int)} {e : Ending} (h : RUndPost w o e w') : ∃ yv ok, e = .returned (.tuple #[yv, .bool ok]) ∧ ((∃ T p c, o = some T ∧ yv = .slice p T.length c ∧ ok = true ∧ Bytes w' p T ∧ ∀ z ∈ T, 0 ≤ z ∧ z ≤ 255) ∨ (o = none ∧ yv = .slice none 0 0 ∧ ok = false)) ∧ Below w.heap.size w w' := by
  rcases h with ⟨⟨T, v, rfl, rfl, h1, h2⟩ | ⟨rfl, rfl⟩, hb⟩
  · obtain ⟨p, c, rfl, _, h3, _⟩ := own_bytes h1 h2
    exact ⟨_, _, rfl, .inl ⟨T, p, c, rfl, rfl, rfl, h3, h2⟩, hb⟩
  · exact ⟨_, _, rfl, .inr ⟨rfl, rfl, rfl⟩, hb⟩
theorem hex_form (o : Option Nat) : ∃ h is, hexV o = .tuple #[.int .u8 h, .bool is] ∧ ((∃ d : Nat, o = some d ∧ h = d ∧ is = true) ∨ (o = none ∧ is = false)) := by
  cases o with
  | none => exact ⟨_, _, rfl, .inr ⟨rfl, rfl⟩⟩
  | some d => exact ⟨_, _, rfl, .inl ⟨d, rfl, rfl, rfl⟩⟩
/-- Digits that were printed are read as the bytes. -/
theorem str_undig (zs : List Int) (hz : ∀ z ∈ zs, 0 ≤ z ∧ z ≤ 255) (hl : zs.length ≤ 1000) (K : Nat) (w : World) (hK : (strOfNums (digL zs)).size ≤ K) :
    Calls Tryd.prog 23 #[.slice (some ⟨w.heap.size, 0, none⟩) (strOfNums (digL zs)).size K] (Lib.bytesWorld w 5 (strOfNums (digL zs))) fun e w' => ∃ g, e = .returned (.tuple #[.slice (some ⟨g, 0, none⟩) zs.length zs.length, .int .i64 0]) ∧ Bytes w' (some ⟨g, 0, none⟩) zs ∧ Below w.heap.size w w' := by
  have hb : bts (strOfNums (digL zs)) = digL zs := bts_strOf _ (digL_bd hz)
  have hsz : (strOfNums (digL zs)).size = 2 * zs.length := by rw [strOf_size, digL_len]
  have hws : (Lib.bytesWorld w 5 (strOfNums (digL zs))).heap.size = w.heap.size + 1 := Lib.bytesWorld_size ..
  refine (sundig_any (some ⟨w.heap.size, 0, none⟩) _ K (bts (strOfNums (digL zs))) _ (bytes_new w _) (bts_length _) hK (by omega)).mono ?_
  rintro e w' ⟨⟨T, g, h1, rfl, h2, _⟩ | ⟨h1, _⟩, h3⟩
  · rw [hb, undig_digL zs hz] at h1
    injection h1 with h1
    subst h1
    exact ⟨g, rfl, bytes_row h2 hz, (Lib.bytesWorld_below w 5 _).trans (h3.mono (by omega))⟩
  · rw [hb, undig_digL zs hz] at h1
    cases h1
set_option maxHeartbeats 3200000 in
set_option maxRecDepth 20000 in
theorem scanHex_walk (a1 : Option Addr) (l1 c1 : Nat) (z1 : List Int) (a2 : Option Addr) (l2 c2 : Nat) (z2 : List Int) (c : Int) (w : World) (h1 : IsRow .u8 w a1 l1 c1 z1) (h2 : IsRow .u8 w a2 l2 c2 z2) (hc : (Lit.int .u8 c).wf = true) (hT : Tabs w) (hE : ErrV w) :
    Calls Tryd.prog 7 #[.slice a1 l1 c1, .slice a2 l2 c2, .int .u8 c] w fun e w' => e = .returned (.bool true) ∧ Below w.heap.size w w' := by
  have HA := Lib.hid (awake13_any w hT hE)
  have HZ := Lib.hid (row_bytes h1)
  have HY := Lib.hid (row_bytes h2)
  have hcl := h1.1
  have hcm := h1.2.1
  have hcl2 := h2.1
  have hcm2 := h2.2.1
  obtain ⟨hc0, hc1⟩ := bounds_u8 hc
  clear hT hE h1 h2 hc
  by_cases hbig : (1000 : Int) < (l1 : Int)
  · go_enter Tryd.func7, Tryd.ntmps7
    go_wp2_with fail
    refine HA.out.mono ?_
    rintro e w1 ⟨rfl, hb1⟩
    go_wp2
    go_ret
    exact ⟨rfl, hb1⟩
  · by_cases hbig2 : (1000 : Int) < (l2 : Int)
    · go_enter Tryd.func7, Tryd.ntmps7
      go_wp2_with fail
      refine HA.out.mono ?_
      rintro e w1 ⟨rfl, hb1⟩
      go_wp2
      go_ret
      exact ⟨rfl, hb1⟩
    · obtain ⟨i0, hi0, hzz0, hzz1, hzz2⟩ := info_parts u8_info
      have I1 := Lib.hid hi0
      have I2 := Lib.hid hzz0
      have I3 := Lib.hid hzz1
      have I4 := Lib.hid hzz2
      clear hi0 hzz0 hzz1 hzz2
      go_enter Tryd.func7, Tryd.ntmps7
      go_wp2_with fail
      refine HA.out.mono ?_
      rintro e w1 ⟨rfl, hb1⟩
      have HB1 := Lib.hid hb1
      have HN := Lib.hid (own_none w1)
      have HS := Lib.hid (src_u8 (HZ.out.1.below (Nat.le_refl _) hb1) HZ.out.2 ((Below.refl w1.heap.size w1).alloc (Nat.le_refl _) (.cells #[] 5)) c1)
      clear hb1
      go_wp2_with (at_builtin; refine wpList_append_first _ rfl (.tmp 28) (.tmp 29) 22 22 rfl w1.heap.size 5 i0 _ 1 Tryd.underlying22 I1.out I2.out I3.out rfl _ rfl HN.out _ l1 ((z1.take l1).map (Value.int .u8)) rfl HS.out (by unfold maxLen; omega) (by rw [I4.out]; omega) (by simp) ?_; intro v4 W2 hown4 hg4 hat4; clear hat4; obtain ⟨a4, m4, rfl⟩ := ownsRow_form hown4)
      obtain ⟨q1, q2, q3, q4⟩ := copied HZ.out.2 (bytes_mem HZ.out.1) hown4 hg4
      have HB2 := Lib.hid (HB1.out.trans (q4.mono HB1.out.size))
      have HQ2 := Lib.hid q2
      clear hown4 hg4 q2 q3 q4 HN HS
      refine (digits_any a4 l1 m4 (z1.take l1) W2 HQ2.out HZ.out.2 q1 (by omega)).mono ?_
      rintro e w3 ⟨rfl, hb3⟩
      have HB3 := Lib.hid (HB2.out.trans (hb3.mono HB2.out.size))
      have HUD := Lib.hid (str_undig (z1.take l1) (bytes_mem HZ.out.1) (by rw [HZ.out.2]; omega))
      have HRD := Lib.hid (fun W (hb : Below w.heap.size w W) => rdigits_any a1 l1 c1 (z1.take l1) W (HZ.out.1.below (Nat.le_refl _) hb) HZ.out.2 (by omega))
      have kc := fun W => Lib.run_convert_string_bytes (P := Tryd.prog) W 9 22 5 (strOfNums (digL (z1.take l1))) Tryd.underlying9 Tryd.underlying22 Tryd.underlying5
      generalize strOfNums (digL (z1.take l1)) = D1 at HUD HRD kc ⊢
      rw [HZ.out.2] at HUD
      clear hb3 HQ2 q1 HB2
      go_wp2_with fail
      refine (HUD.out _ w3 (grownCap_ge ..)).mono ?_
      rintro e w4 ⟨g, rfl, hg4, hb4⟩
      have HG := Lib.hid hg4
      have HB4 := Lib.hid (HB3.out.trans (hb4.mono HB3.out.size))
      have HN2 := Lib.hid (own_none w4)
      have HS2 := Lib.hid (src_u8 (HY.out.1.below (Nat.le_refl _) HB4.out) HY.out.2 ((Below.refl w4.heap.size w4).alloc (Nat.le_refl _) (.cells #[] 5)) c2)
      clear hg4 hb4 HUD kc
      go_wp2_with (at_builtin; refine wpList_append_first _ rfl (.tmp 39) (.tmp 40) 22 22 rfl w4.heap.size 5 i0 _ 1 Tryd.underlying22 I1.out I2.out I3.out rfl _ rfl HN2.out _ l2 ((z2.take l2).map (Value.int .u8)) rfl HS2.out (by unfold maxLen; omega) (by rw [I4.out]; omega) (by simp) ?_; intro v4 W5 hown4 hg4 hat4; clear hat4; obtain ⟨a5, m5, rfl⟩ := ownsRow_form hown4)
      obtain ⟨q1, q2, q3, q4⟩ := copied HY.out.2 (bytes_mem HY.out.1) hown4 hg4
      have HB5 := Lib.hid (HB4.out.trans (q4.mono HB4.out.size))
      have HG5 := Lib.hid (HG.out.below (Nat.le_refl _) q4)
      have HQ2 := Lib.hid q2
      clear hown4 hg4 q2 q3 q4 HN2 HS2 HG
      refine (sundig_any a5 l2 m5 (z2.take l2) W5 HQ2.out HY.out.2 q1 (by omega)).mono ?_
      intro e w6 hu
      obtain ⟨xv, er, rfl, hx, hb6⟩ := und_form hu
      have HX := Lib.hid hx
      have HB6 := Lib.hid (HB5.out.trans (hb6.mono HB5.out.size))
      have HG6 := Lib.hid (HG5.out.below (Nat.le_refl _) hb6)
      clear hu hx hb6 HQ2 HG5 q1
      go_wp2_with fail
      refine (rundig_any a2 l2 c2 (z2.take l2) w6 (HY.out.1.below (Nat.le_refl _) HB6.out) HY.out.2 (by omega)).mono ?_
      intro e w7 hu
      obtain ⟨yv, ok, rfl, hy, hb7⟩ := rund_form hu
      have HYV := Lib.hid hy
      have HB7 := Lib.hid (HB6.out.trans (hb7.mono HB6.out.size))
      have HG7 := Lib.hid (HG6.out.below (Nat.le_refl _) hb7)
      have HX7 : Hid ((∃ T g, undig (z2.take l2) = some T ∧ xv = .slice (some ⟨g, 0, none⟩) T.length T.length ∧ er = 0 ∧ w7.heap[g]? = some (.cells (T.map (Value.int .u8)).toArray 5 (0, 0))) ∨ (undig (z2.take l2) = none ∧ xv = .slice none 0 0 ∧ er = 20)) := by
        rcases HX.out with ⟨T, g, e1, e2, e3, e4⟩ | h
        · exact .inl ⟨T, g, e1, e2, e3, blk_below e4 hb7 (blk_lt e4)⟩
        · exact .inr h
      clear hu hy hb7 HX HG6
      go_wp2_with fail
      refine (shex_any c w7 hc0 hc1).mono ?_
      rintro e w8 ⟨he, hb8⟩
      obtain ⟨hh, is, hv, hhx⟩ := hex_form (hexD c)
      rw [hv] at he
      subst he
      have HHX := Lib.hid hhx
      have HB8 := Lib.hid hb8
      clear hb8 hhx hv
      go_wp2
      go_loopw [16, 17, 55] (fun want _ t wr => ∃ k : Int, 0 ≤ k ∧ k ≤ 16 ∧ t = .int .i64 k ∧ want = .int .i64 (seenZ (hexD c) k) ∧ Below w7.heap.size w7 wr) (fun _ _ t _ => 16 - (intOf t).toNat)
      case atStart => exact ⟨0, by decide, by decide, rfl, by rw [seen_zero], HB8.out⟩
      case round =>
        obtain ⟨k, k0, k1, rfl, rfl, hb⟩ := hrel
        have HB9 := Lib.hid hb
        clear hb
        by_cases hk : k < 16
        · obtain ⟨A, hA⟩ : ∃ A, (⟨#[48, 49, 50, 51, 52, 53, 54, 55, 56, 57, 97, 98, 99, 100, 101, 102]⟩ : ByteArray)[k.toNat]'(by show k.toNat < 16; omega) = A := ⟨_, rfl⟩
          have hAk : (A.toNat : Int) = hexC k := by rw [← hA]; exact hex_get k0 hk
          by_cases he : hexC k = c
          · have HS := Lib.hid (seen_hit k0 hk he)
            have hAc := hAk.trans he
            generalize seenZ (hexD c) k = y
            clear he hAk
            go_wp2
            go_roundw
            case rel => exact ⟨k + 1, by omega, by omega, rfl, by rw [HS.out], HB9.out⟩
            case measure => simp [intOf]; omega
          · have HS := Lib.hid (seen_miss he)
            have hAc : ¬ (A.toNat : Int) = c := fun e => he (hAk.symm.trans e)
            generalize seenZ (hexD c) k = y at HS
            clear he hAk
            go_wp2
            go_roundw
            case rel => exact ⟨k + 1, by omega, by omega, rfl, by rw [HS.out], HB9.out⟩
            case measure => simp [intOf]; omega
        · obtain rfl : k = 16 := by omega
          rw [seen_end]
          have HBA := Lib.hid (HB7.out.trans (HB9.out.mono HB7.out.size))
          go_wp2_with fail
          refine (HRD.out _ HBA.out).mono ?_
          rintro e w9 ⟨rfl, hb9⟩
          have HBB := Lib.hid (HBA.out.trans (hb9.mono HBA.out.size))
          have hb7 := HB9.out.trans (hb9.mono HB9.out.size)
          have cvg := conv_own (HG7.out.below (Nat.le_refl _) hb7) HZ.out.2 l1
          have cvb := conv_own (HZ.out.1.below (Nat.le_refl _) HBB.out) HZ.out.2 c1
          generalize strOfNums (z1.take l1) = S1 at cvg cvb
          rcases HX7.out with ⟨T, gx, e1, rfl, rfl, e4⟩ | ⟨e1, rfl, rfl⟩
          · rcases HYV.out with ⟨T', p, cy, e1', rfl, rfl, hyb, hyd⟩ | ⟨e1', _⟩
            · rw [e1] at e1'
              injection e1' with e1'
              subst e1'
              have cvx := conv_own ((bytes_row e4 hyd).below (Nat.le_refl _) hb7) rfl T.length
              have cvy := conv_own (hyb.below (Nat.le_refl _) hb7) rfl cy
              generalize strOfNums T = S2 at cvx cvy
              generalize T.length = tl at cvx cvy
              clear e1 e4 hyb hyd hb9 hb7
              rcases HHX.out with ⟨d, e5, rfl, rfl⟩ | ⟨e5, rfl⟩
              · have hd := hexD_lt e5
                have wd := IntWalk.i64_in (d : Int) ⟨by omega, by omega⟩
                rw [e5, show optZ (some d) = (d : Int) from rfl]
                clear e5
                go_wp2
                go_ret
                exact ⟨rfl, HBB.out⟩
              · rw [e5, show optZ none = -1 from rfl]
                clear e5
                go_wp2
                go_ret
                exact ⟨rfl, HBB.out⟩
            · rw [e1] at e1'
              cases e1'
          · rcases HYV.out with ⟨T', p, cy, e1', _⟩ | ⟨e1', rfl, rfl⟩
            · rw [e1] at e1'
              cases e1'
            · rcases HHX.out with ⟨d, e5, rfl, rfl⟩ | ⟨e5, rfl⟩
              · have hd := hexD_lt e5
                have wd := IntWalk.i64_in (d : Int) ⟨by omega, by omega⟩
                rw [e5, show optZ (some d) = (d : Int) from rfl]
                clear e5
                go_wp2
                go_ret
                exact ⟨rfl, HBB.out⟩
              · rw [e5, show optZ none = -1 from rfl]
                clear e5
                go_wp2
                go_ret
                exact ⟨rfl, HBB.out⟩
end Go.Proofs.YtneadcbadnicfaaDoor
