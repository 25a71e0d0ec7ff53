/-
  The law LexSpaced returns true at all texts and all gaps: a walk over the callees' contracts. Condition: the library's tables and its variable ErrRange hold what the row lists.
-/
import Derived.Test.YtfnopliggdemaaaDoorPlacesWalk
import Derived.Test.YtfnopliggdemaaaDoorSpacedPlain
import Derived.Test.YtfnopliggdemaaaDoorBase
namespace Go.Proofs.YtfnopliggdemaaaDoor
open Go.ChangeShapes Go.WideShapes Go.ChangeAt Go.RowKit Go.Shelf
theorem zs_mem {zs : List Int} {k : Nat} (h : k < zs.length) : zs.getD k 0 ∈ zs := by simp [List.getD, h]
set_option maxRecDepth 100000 in
set_option maxHeartbeats 2000000 in
theorem lexSpaced_good (s : ByteArray) (A : Option Addr) (len cap : Nat) (zs : List Int) (w : World) (hs : s.size ≤ 8192) (hz : IsRow .u8 w A len cap zs) (hT : Tabs w) (hE : ErrV w) (l : List Tok) (p : Nat) (hr : toks okU (amg lawSigns) (bts s) = (l, 0, p)) :
    Calls Tryd.prog 6 #[.string s, .slice A len cap] w fun e w' => e = .returned (.bool true) ∧ Below w.heap.size w w' := by
  obtain ⟨hl, hlen, hzl, hwf, hpz⟩ := hz
  unfold maxLen at hlen
  have HA := Lib.hid (awake_any w hT hE)
  have HP := Lib.hid hpz
  have HW := Lib.hid hwf
  have HT := Lib.hid hT
  have HL := Lib.hid (fun W hb => lexTokens_any s lawSigns W (Tabs.below hT (Nat.le_refl _) hb) (by omega))
  rw [hr] at HL
  obtain ⟨hch, hll⟩ := toks_chain hr
  have hne : l ≠ [] := by rintro rfl; exact hch
  have HCH := Lib.hid hch
  have HNE := Lib.hid hne
  have HALL := Lib.hid (chain_all (s := s) l 0 (Nat.zero_le _) (.inr hch))
  clear hr hT hE hch hne hwf hpz
  go_enter Tryd.func6, Tryd.ntmps6
  go_wp2_with fail
  refine HA.out.mono ?_
  rintro e W1 ⟨rfl, hb1⟩
  have HB1 := Lib.hid hb1
  clear hb1
  go_wp2_with fail
  refine (HL.out W1 HB1.out).mono ?_
  rintro e W2 ⟨v, rfl, ho, hb2⟩
  have HB2 := Lib.hid (HB1.out.trans (hb2.mono HB1.out.size))
  obtain ⟨g, c, rfl, hc, _, hg, hcell⟩ := ho.cells HNE.out
  have HC := Lib.hid hcell
  clear hb2 hcell ho
  simp only
  go_upto_region 8 with (fail)
  obtain ⟨W3, hW3⟩ : ∃ W3, W3 = (W2.alloc (.cells #[.int .i64 0, .int .i64 p] 27)).alloc (.cells #[.string ⟨#[32]⟩, .string ⟨#[10]⟩, .string ⟨#[9, 13, 32]⟩, .string ⟨#[47, 47, 32, 34, 120, 32, 123, 10]⟩, .string ⟨#[32, 47, 47, 10, 47, 47, 10]⟩] 9) := ⟨_, rfl⟩
  have hb23 : Below W2.heap.size W2 W3 := by
    rw [hW3]
    exact ((Below.refl _ _).alloc (Nat.le_refl _) _).alloc (by rw [World.size_alloc]; omega) _
  have hs3 : W3.heap.size = W2.heap.size + 2 := by rw [hW3, World.size_alloc, World.size_alloc]
  have HFC := Lib.hid (show ∀ j, j < 5 → W3.cell? ⟨W2.heap.size + 1, j, none⟩ = (fills[j]?).map Value.string by
    intro j hj
    rw [hW3]
    exact fill_cells _ _ _ (World.size_alloc ..).symm j hj)
  have HC3 := Lib.hid (show ∀ j, j < l.length * 3 → W3.cell? ⟨g, j, none⟩ = (toksCells l)[j]? from fun j hj => (hb23.cell (p := ⟨g, j, none⟩) hg).trans (HC.out j hj))
  have HB3 := Lib.hid (HB2.out.trans (hb23.mono HB2.out.size))
  rw [← hW3]
  have hg3 : g < W3.heap.size := by omega
  have HFS := Lib.hid (show W2.heap.size + 1 < W3.heap.size by omega)
  generalize W2.heap.size + 1 = FB at HFC HFS ⊢
  generalize W2.heap.size = FT
  clear hb23 hs3 hW3 hg HC
  go_wp2
  go_loopw [8, 28] (fun tw i wr => Below W3.heap.size W3 wr ∧ ∃ (k : Nat) (T : ByteArray), k ≤ l.length ∧ i = .int .i64 k ∧ tw = .string T ∧ bts T = joinT (gapOf zs len) 0 (l.take k)) (fun _ i _ => l.length - (intOf i).toNat)
  case atStart => exact ⟨Below.refl _ _, 0, ⟨#[]⟩, Nat.zero_le _, rfl, rfl, rfl⟩
  case round =>
    obtain ⟨hb, k, T, hk, rfl, rfl, hT⟩ := hrel
    have HB := Lib.hid hb
    have HBW := Lib.hid (HB3.out.trans (hb.mono HB3.out.size))
    have hgr : g < wr.heap.size := Nat.lt_of_lt_of_le hg3 hb.size
    have hFr : FB < wr.heap.size := Nat.lt_of_lt_of_le HFS.out hb.size
    have hTs : T.size ≤ k * 8200 := by
      have h1 := joinT_le (gapOf zs len) 8192 (l.take k) 0 (fun t ht => Nat.le_trans (HALL.out t (List.mem_of_mem_take ht)).2.1 hs)
      rw [← hT, bts_length, List.length_take, Nat.min_eq_left hk] at h1
      exact h1
    have HTT := Lib.hid hT
    clear hT
    cases hd : l.drop k with
    | nil =>
      have hkl : k = l.length := by have := List.drop_eq_nil_iff.1 hd; omega
      subst hkl
      rw [List.take_length] at HTT
      clear hd hb
      by_cases hbig : 8192 < T.size
      · go_wp2
        go_ret
        exact ⟨rfl, HBW.out⟩
      · obtain ⟨r, hr, hkt⟩ := twin_toks (gapOf zs len) signs_solid ⟨HCH.out, hll⟩ HTT.out (by omega)
        go_wp2_with fail
        have HX := Lib.hid (lexTokens_any T lawSigns wr (Tabs.below HT.out (Nat.le_refl _) HBW.out) (by omega))
        rw [hr] at HX
        refine HX.out.mono ?_
        rintro e W5 ⟨v, rfl, ho, hb5⟩
        have hlen : r.length = l.length := by have := congrArg List.length hkt; simpa using this
        have hrne : r ≠ [] := by
          rintro rfl
          exact HNE.out (List.eq_nil_of_length_eq_zero hlen.symm)
        obtain ⟨g5, c5, rfl, hc5, _, hg5, hcell5⟩ := ho.cells hrne
        have HB5 := Lib.hid (HBW.out.trans (hb5.mono HBW.out.size))
        have HB35 := Lib.hid (HB.out.trans (hb5.mono HB.out.size))
        have HC5 := Lib.hid hcell5
        have HKT := Lib.hid hkt
        have hg5' : g < W5.heap.size := Nat.lt_of_lt_of_le hgr hb5.size
        clear ho hb5 hcell5 hkt hrne hr hc5 hbig hTs
        simp only
        rw [hlen]
        go_wp2
        go_loopw [87] (fun i w' => Below W5.heap.size W5 w' ∧ ∃ k : Nat, k ≤ l.length ∧ i = .int .i64 k) (fun i _ => l.length - (intOf i).toNat)
        case atStart => exact ⟨(Below.refl _ _).alloc (Nat.le_refl _) _, 0, Nat.zero_le _, rfl⟩
        case round =>
          obtain ⟨hb, k, hk, rfl⟩ := hrel
          have HQ := Lib.hid hb
          cases hd : l.drop k with
          | nil =>
            have hkl : k = l.length := by have := List.drop_eq_nil_iff.1 hd; omega
            subst hkl
            clear hd hb
            go_wp2
            go_ret
            exact ⟨rfl, HB5.out.trans (HQ.out.mono HB5.out.size)⟩
          | cons t q =>
            obtain ⟨hkl, c0, c1, _⟩ := tok_cell HC3.out hg3 (HB35.out.trans (hb.mono HB35.out.size)) k t q hd
            obtain ⟨u, q', hd', e1, e2⟩ := kt_get HKT.out k t q hd
            obtain ⟨_, d0, d1, _⟩ := tok_cell HC5.out hg5 hb k u q' hd'
            have hgq : g < wr.heap.size := Nat.lt_of_lt_of_le hg5' hb.size
            have hgq' : g5 < wr.heap.size := Nat.lt_of_lt_of_le hg5 hb.size
            rw [e1] at d0
            rw [e2] at d1
            clear hd hd' e1 e2 hb
            go_upto_region 27 with (fail)
            go_quiet (fail)
            go_wp2
            go_roundw
            case rel => exact ⟨bel_drewN HQ.out nq, k + 1, hkl, by go_num⟩
            case measure => simp [intOf]; omega
    | cons t r =>
      obtain ⟨hkl, c0, c1, c2⟩ := tok_cell HC3.out hg3 hb k t r hd
      have HD := Lib.hid hd
      obtain ⟨F1, f2, f3⟩ := HALL.out t (List.mem_of_mem_drop (hd ▸ List.mem_cons_self))
      have HTB := Lib.hid f3
      have HTN := Lib.hid (joinT_next (gapOf zs len) l k t r hd hkl)
      have hfl : t.text.length + (if t.kind = 3 then 2 else 0) = (full t).length := full_length t
      obtain ⟨F, hF, hFb, hFz⟩ := fill_get (gapOf zs len k) (by unfold gapOf; split <;> omega)
      have hFc : wr.cell? ⟨FB, gapOf zs len k, none⟩ = some (.string F) := by
        rw [hb.cell (p := ⟨FB, gapOf zs len k, none⟩) HFS.out, HFC.out _ (by unfold gapOf; split <;> omega), hF]
        rfl
      have HFB := Lib.hid hFb
      clear hb hd f3 F1 hF hFb
      by_cases hl0 : 0 < len
      · have hgap : gapOf zs len k = (zs.getD (k % len) 0).toNat % 5 := if_pos hl0
        obtain ⟨b, off, rfl, hbs, hzc⟩ := HP.out (by intro h; rw [h] at hzl; simp at hzl; omega)
        have hzc' : wr.cell? ⟨b, off + k % len, none⟩ = some (.int .u8 (zs.getD (k % len) 0)) := by
          have hlt := Nat.mod_lt k hl0
          rw [HBW.out.cell (p := ⟨b, off + k % len, none⟩) hbs]
          exact hzc _ (by omega)
        have hwn := bounds_u8 (HW.out _ (zs_mem (show k % len < zs.length by have := Nat.mod_lt k hl0; omega)))
        clear hzc
        have hbwr : b < wr.heap.size := Nat.lt_of_lt_of_le hbs HBW.out.size
        rw [hgap] at hFc
        generalize zs.getD (k % len) 0 = z at hzc' hwn hFc hgap
        obtain ⟨hz0, hz1⟩ := hwn
        obtain ⟨n, rfl⟩ : ∃ n : Nat, z = n := ⟨z.toNat, by omega⟩
        rw [Int.toNat_natCast] at hFc hgap
        have m1 : (0 : Int) ≤ (k : Int) % (len : Int) := Int.emod_nonneg _ (by omega)
        have m2 : (k : Int) % (len : Int) < (len : Int) := Int.emod_lt_of_pos _ (by omega)
        have n1 : (0 : Int) ≤ (n : Int) % 5 := Int.emod_nonneg _ (by omega)
        have n2 : (n : Int) % 5 < 5 := Int.emod_lt_of_pos _ (by omega)
        have q0 : ¬ 9223372036854775807 < T.size + F.size := by omega
        clear hgap
        by_cases hk3 : t.kind = 3
        · have t3 : (t.kind == 3) = true := beq_iff_eq.2 hk3
          rw [if_pos hk3] at hfl
          have q1 : ¬ 9223372036854775807 < 1 + (strOfNums t.text).size := by rw [strOfNums_size]; omega
          have q2 : ¬ 9223372036854775807 < 1 + (strOfNums t.text).size + 1 := by rw [strOfNums_size]; omega
          have q3 : ¬ 9223372036854775807 < T.size + F.size + (1 + (strOfNums t.text).size + 1) := by rw [strOfNums_size]; omega
          have hfull : full t = 34 :: (t.text ++ [34]) := if_pos hk3
          clear hfl hk3 hTs
          go_wp2
          go_roundw
          case rel =>
            refine ⟨HB.out.alloc HB.out.size _, k + 1, _, hkl, by go_num, rfl, ?_⟩
            rw [HTN.out, bts_append, bts_append, bts_append, bts_append, bts_strOf _ HTB.out, HTT.out, HFB.out, hfull]
            simp
            rfl
          case measure => simp [intOf]; omega
        · have t3 : (t.kind == 3) = false := beq_eq_false_iff_ne.2 hk3
          rw [if_neg hk3] at hfl
          have q3 : ¬ 9223372036854775807 < T.size + F.size + (strOfNums t.text).size := by rw [strOfNums_size]; omega
          have hfull : full t = t.text := if_neg hk3
          clear hfl hk3 hTs
          go_wp2
          go_roundw
          case rel =>
            refine ⟨HB.out.alloc HB.out.size _, k + 1, _, hkl, by go_num, rfl, ?_⟩
            rw [HTN.out, bts_append, bts_append, bts_strOf _ HTB.out, HTT.out, HFB.out, hfull]
            simp
          case measure => simp [intOf]; omega
      · have hgap : gapOf zs len k = 0 := if_neg hl0
        obtain rfl : len = 0 := by omega
        rw [hgap] at hFc
        have q0 : ¬ 9223372036854775807 < T.size + F.size := by omega
        clear hgap
        by_cases hk3 : t.kind = 3
        · have t3 : (t.kind == 3) = true := beq_iff_eq.2 hk3
          rw [if_pos hk3] at hfl
          have q1 : ¬ 9223372036854775807 < 1 + (strOfNums t.text).size := by rw [strOfNums_size]; omega
          have q2 : ¬ 9223372036854775807 < 1 + (strOfNums t.text).size + 1 := by rw [strOfNums_size]; omega
          have q3 : ¬ 9223372036854775807 < T.size + F.size + (1 + (strOfNums t.text).size + 1) := by rw [strOfNums_size]; omega
          have hfull : full t = 34 :: (t.text ++ [34]) := if_pos hk3
          clear hfl hk3 hTs
          go_wp2
          go_roundw
          case rel =>
            refine ⟨HB.out.alloc HB.out.size _, k + 1, _, hkl, by go_num, rfl, ?_⟩
            rw [HTN.out, bts_append, bts_append, bts_append, bts_append, bts_strOf _ HTB.out, HTT.out, HFB.out, hfull]
            simp
            rfl
          case measure => simp [intOf]; omega
        · have t3 : (t.kind == 3) = false := beq_eq_false_iff_ne.2 hk3
          rw [if_neg hk3] at hfl
          have q3 : ¬ 9223372036854775807 < T.size + F.size + (strOfNums t.text).size := by rw [strOfNums_size]; omega
          have hfull : full t = t.text := if_neg hk3
          clear hfl hk3 hTs
          go_wp2
          go_roundw
          case rel =>
            refine ⟨HB.out.alloc HB.out.size _, k + 1, _, hkl, by go_num, rfl, ?_⟩
            rw [HTN.out, bts_append, bts_append, bts_strOf _ HTB.out, HTT.out, HFB.out, hfull]
            simp
          case measure => simp [intOf]; omega
set_option maxRecDepth 100000 in
set_option maxHeartbeats 1000000 in
theorem lexSpaced_fault (s : ByteArray) (A : Option Addr) (len cap : Nat) (w : World) (hs : s.size ≤ 9223372036854775807) (hT : Tabs w) (hE : ErrV w) (l : List Tok) (code : Int) (p : Nat) (hr : toks okU (amg lawSigns) (bts s) = (l, code, p)) (hc : code ≠ 0) :
    Calls Tryd.prog 6 #[.string s, .slice A len cap] w fun e w' => e = .returned (.bool true) ∧ Below w.heap.size w w' := by
  have HA := Lib.hid (awake_any w hT hE)
  have HL := Lib.hid (fun W hb => lexTokens_any s lawSigns W (Tabs.below hT (Nat.le_refl _) hb) hs)
  rw [hr] at HL
  have hcz : (code != 0) = true := bne_iff_ne.2 hc
  clear hr hT hE hc
  go_enter Tryd.func6, Tryd.ntmps6
  go_wp2_with fail
  refine HA.out.mono ?_
  rintro e W1 ⟨rfl, hb1⟩
  have HB1 := Lib.hid hb1
  clear hb1
  go_wp2_with fail
  refine (HL.out W1 HB1.out).mono ?_
  rintro e W2 ⟨v, rfl, _, hb2⟩
  have HB2 := Lib.hid (HB1.out.trans (hb2.mono HB1.out.size))
  clear hb2
  simp only
  go_wp2
  go_ret
  exact ⟨rfl, HB2.out.alloc HB2.out.size _⟩
theorem lexSpaced_walk (s : ByteArray) (A : Option Addr) (len cap : Nat) (zs : List Int) (w : World) (hs : s.size ≤ 9223372036854775807) (hz : IsRow .u8 w A len cap zs) (hT : Tabs w) (hE : ErrV w) :
    Calls Tryd.prog 6 #[.string s, .slice A len cap] w fun e w' => e = .returned (.bool true) ∧ Below w.heap.size w w' := by
  obtain ⟨r, hr⟩ : ∃ r, toks okU (amg lawSigns) (bts s) = r := ⟨_, rfl⟩
  obtain ⟨l, code, p⟩ := r
  by_cases hc : code = 0
  · subst hc
    refine lexSpaced_good s A len cap zs w ?_ hz hT hE l p hr
    unfold toks at hr
    rw [bts_length] at hr
    split at hr
    · simp at hr
    · omega
  · exact lexSpaced_fault s A len cap w hs hT hE l code p hr hc
end Go.Proofs.YtfnopliggdemaaaDoor
