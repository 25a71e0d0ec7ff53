/-
  The program's writer of JSON (package jsonwrite): a number of a type, bytes of a type. Conditions: those that each theorem names.
-/
import Derived.Test.YtiknhkkeifemcaaGreatDoorPkN39
namespace Go.Proofs.YtiknhkkeifemcaaGreatDoor
open Go.ChangeShapes Go.WideShapes Go.ChangeAt Go.RowKit Go.Shelf

theorem numJ_pos (es : List SCho) (k : Nat) (ref : Int) (n : Nat) : 1 ≤ (numJ es k ref n).length := by
  unfold numJ
  split
  · unfold boolF; split <;> decide
  split
  · have := (quot_len (bts (namJ es ref n))).1; omega
  split
  · simp
  · exact (decS_len k n).1
theorem fmt_bool (n : Nat) : bts ⟨(Lib.formatBool (decide (¬ n = 0))).toArray⟩ = boolF n := by
  unfold boolF
  by_cases h : n = 0
  · rw [if_pos h, show decide (¬ n = 0) = false from decide_eq_false (by omega)]; decide +kernel
  · rw [if_neg h, show decide (¬ n = 0) = true from decide_eq_true h]; decide +kernel
section
variable {D Dv : Nat → Prop} {w : World} {base wk ak mk : Nat} {rv cv : Value} {A : Option Addr} {L pay : Int} {enc bs : List Int} {rs : List (SRec × Value)} {cs : List (SCho × Value)}
set_option maxRecDepth 100000 in
set_option maxHeartbeats 8000000 in
theorem jnum_any (h : JwAll D Dv w base wk ak mk rv cv A L enc pay rs cs) (k ref : Nat) (lists : Int) (hs : sortP k lists = 1) (hr : ref ≤ 1000000) (n : Nat) (hn : n ≤ maxU) :
    Calls Tryz.prog 32 #[.pointer (some ⟨wk, 0, none⟩), .agg #[.int .u8 k, .int .i64 ref, .int .i64 lists], .int .u64 n] w fun e w' => e = .returned (.tuple #[]) ∧ JwTo base wk ak mk rv cv A L (enc ++ numJ (jChos cs) k ref n) (pay + 20 * (numJ (jChos cs) k ref n).length) w w' := by
  have hb0 := (Below.refl w.heap.size w).alloc (Nat.le_refl _) (.cells #[.int .u8 k, .int .i64 ref, .int .i64 lists] 47)
  have HB0 := Lib.hid hb0
  have HQ := Lib.hid (heap_alloc_new w (.cells #[.int .u8 k, .int .i64 ref, .int .i64 lists] 47))
  have HA0 := Lib.hid (h.below hb0)
  have hpos := numJ_pos (jChos cs) k ref n
  have HE : Hid (numJ (jChos cs) k ref n = if k = 1 then boolF n else if k = 10 then quot (bts (namJ (jChos cs) ref n)) else if k = 5 ∨ k = 9 then 34 :: (decS k n ++ [34]) else decS k n) := Lib.hid rfl
  obtain ⟨o, ho⟩ : ∃ o, numJ (jChos cs) k ref n = o := ⟨_, rfl⟩
  rw [ho] at HE hpos ⊢
  have HS := Lib.hid (fun W : World => sorts_any k ref lists W)
  rw [hs] at HS
  clear h hb0 ho hs
  by_cases hk1 : k = 1
  · subst hk1
    have HE2 := Lib.hid (HE.out.trans (if_pos rfl))
    clear HE
    have HFB := Lib.hid (fmt_bool n)
    have hnz : (!(n : Int) == 0) = decide (¬ n = 0) := by
      by_cases h : n = 0
      · subst h; rfl
      · rw [decide_eq_true h]; simp; omega
    have hnz2 : ((n : Int) != 0) = decide (¬ n = 0) := hnz
    obtain ⟨b0, hb0⟩ : ∃ b0, decide (¬ n = 0) = b0 := ⟨_, rfl⟩
    rw [hb0] at hnz hnz2 HFB
    have HBL : Hid ((⟨(Lib.formatBool b0).toArray⟩ : ByteArray).size = (boolF n).length) := Lib.hid (by rw [← bts_length, HFB.out])
    have HFC := Lib.hid (fun W : World => Tryz.strconv_FormatBool b0 W)
    generalize (⟨(Lib.formatBool b0).toArray⟩ : ByteArray) = FS at *
    clear hb0
    go_enter Tryz.func32, Tryz.ntmps32
    go_upto_region 1 with (fail)
    generalize w.alloc (.cells #[.int .u8 ((1 : Nat) : Int), .int .i64 ref, .int .i64 lists] 47) = W0 at *
    obtain ⟨_, x0, x1, x2, _⟩ := blk3 HQ.out
    go_wp2_with fail
    refine (HS.out W0).mono ?_
    rintro e W1 ⟨rfl, hb1⟩
    have HB1 := Lib.hid hb1
    have HBW := Lib.hid (HB0.out.trans (hb1.mono HB0.out.size))
    have HGO := Lib.hid (jgoes_any (HA0.out.below hb1).at_)
    obtain ⟨_, x0, x1, x2, _⟩ := blk3 (blk_below HQ.out hb1 (blk_lt HQ.out))
    clear hb1
    go_wp2_with fail
    refine HGO.out.mono ?_
    rintro e W1' ⟨⟨bb, rfl, hgo, hoff⟩, rfl⟩
    cases bb
    · have HEND := Lib.hid (show JwTo base wk ak mk rv cv A L (enc ++ o) (pay + 20 * o.length) w W1 from ⟨A, .inr ((hoff rfl).more (by rw [List.length_append]; omega) (by omega)), .of_below A HBW.out⟩)
      clear hgo hoff
      go_wp2
      exact bodyPost_ret (v := .tuple #[]) (by simp [results, Tryz.results32, go_sem]) rfl ⟨rfl, HEND.out⟩
    have HG := Lib.hid (hgo rfl)
    clear hgo hoff HGO
    go_wp2_with fail
    refine (HFC.out W1).mono ?_
    rintro e W2 ⟨rfl, rfl⟩
    have hfl : FS.size ≤ 5 := by rw [HBL.out]; unfold boolF; split <;> decide
    have HPS := Lib.hid (jputs_any (.inl HG.out) FS (by omega))
    clear HFC hnz hnz2
    go_wp2_with fail
    refine HPS.out.mono ?_
    rintro e W3 ⟨rfl, ht⟩
    have HEND := Lib.hid (show JwTo base wk ak mk rv cv A L (enc ++ o) (pay + 20 * o.length) w W3 by
      have h1 := ht.from (.of_below A HBW.out)
      rw [HFB.out, ← HE2.out] at h1
      refine h1.more ?_
      rw [HBL.out, ← HE2.out]
      omega)
    clear ht HPS
    go_wp2
    exact bodyPost_end (v := .tuple #[]) (by simp [results, Tryz.results32, go_sem]) rfl ⟨rfl, HEND.out⟩
  have HE1 := Lib.hid (HE.out.trans (if_neg hk1))
  have b1 : ((k : Int) == 1) = false := by simp; omega
  clear HE
  by_cases hk10 : k = 10
  · subst hk10
    have HE2 := Lib.hid (HE1.out.trans (if_pos rfl))
    clear HE1 hk1
    go_enter Tryz.func32, Tryz.ntmps32
    go_upto_region 1 with (fail)
    generalize w.alloc (.cells #[.int .u8 ((10 : Nat) : Int), .int .i64 ref, .int .i64 lists] 47) = W0 at *
    obtain ⟨_, x0, x1, x2, _⟩ := blk3 HQ.out
    go_wp2_with fail
    refine (HS.out W0).mono ?_
    rintro e W1 ⟨rfl, hb1⟩
    have HB1 := Lib.hid hb1
    have HBW := Lib.hid (HB0.out.trans (hb1.mono HB0.out.size))
    have HGO := Lib.hid (jgoes_any (HA0.out.below hb1).at_)
    obtain ⟨_, x0, x1, x2, _⟩ := blk3 (blk_below HQ.out hb1 (blk_lt HQ.out))
    clear hb1
    go_wp2_with fail
    refine HGO.out.mono ?_
    rintro e W1' ⟨⟨bb, rfl, hgo, hoff⟩, rfl⟩
    cases bb
    · have HEND := Lib.hid (show JwTo base wk ak mk rv cv A L (enc ++ o) (pay + 20 * o.length) w W1 from ⟨A, .inr ((hoff rfl).more (by rw [List.length_append]; omega) (by omega)), .of_below A HBW.out⟩)
      clear hgo hoff
      go_wp2
      exact bodyPost_ret (v := .tuple #[]) (by simp [results, Tryz.results32, go_sem]) rfl ⟨rfl, HEND.out⟩
    have HG := Lib.hid (hgo rfl)
    clear hgo hoff HGO
    obtain ⟨_, x0, x1, x2, _⟩ := blk3 (blk_below HQ.out HB1.out (blk_lt HQ.out))
    have HCH := Lib.hid (jchoice_any (.inl HG.out) (HA0.out.below HB1.out).ctx ref n hr hn)
    have HNL : Hid ((namJ (jChos cs) ref n).size ≤ 1000) := Lib.hid (by
      have hf := HA0.out.ctx.few.2.2.2
      by_cases h1 : ref < (jChos cs).length
      · rw [namJ_at h1, List.getD]
        unfold jChos at h1 ⊢
        rw [List.length_map] at h1
        simp only [List.getElem_map]
        by_cases h2 : n < (cs[ref]).1.names.length
        · rw [List.getElem?_eq_getElem h2]
          exact (hf _ (List.getElem_mem h1)).2 _ (List.getElem_mem h2)
        · rw [List.getElem?_eq_none (by omega)]
          exact Nat.zero_le _
      · rw [namJ_out (by omega)]
        exact Nat.zero_le _)
    go_wp2_with fail
    refine HCH.out.mono ?_
    rintro e W2 ⟨rfl, rfl⟩
    generalize namJ (jChos cs) ref n = nm at *
    obtain ⟨K, w2, hcv, hK, hb2, hl2, hby⟩ := conv_bts nm W1
    have hbl := bts_length nm
    have hat2 := JwAt.below (.inl HG.out) hb2
    have hlts := JwAt.lts (.inl HG.out)
    have hrow : ∀ g, rowOf (some (⟨W1.heap.size, 0, none⟩ : Addr)) = some g → g = W1.heap.size := fun g hg => by simp [rowOf] at hg; omega
    have htx := jtext_any hat2 (S := some ⟨W1.heap.size, 0, none⟩) (c := K) ⟨hby, by rw [hbl]; exact hK, (fun e => by cases e), avoid_new (B := W1.heap.size) ⟨hlts.1, hlts.2.1, hlts.2.2.1, hlts.2.2.2.1⟩ (fun g hg => by have := hrow g hg; omega), (fun g hg => by have := hrow g hg; omega), by have := HNL.out; omega⟩
    rw [hbl] at htx
    have HTX := Lib.hid htx
    have HB2 := Lib.hid hb2
    clear hbl hat2 hlts hrow htx hby hb2 HCH x0 x1 x2
    go_wp2_with fail
    refine HTX.out.mono ?_
    rintro e W3 ⟨rfl, ht⟩
    have HEND := Lib.hid (show JwTo base wk ak mk rv cv A L (enc ++ o) (pay + 20 * o.length) w W3 by
      have h1 := (ht.from (.of_below A HB2.out)).from (.of_below A HBW.out)
      rw [← HE2.out] at h1
      exact h1.more (by omega))
    clear ht HTX
    go_wp2
    exact bodyPost_end (v := .tuple #[]) (by simp [results, Tryz.results32, go_sem]) rfl ⟨rfl, HEND.out⟩
  have HE3 := Lib.hid (HE1.out.trans (if_neg hk10))
  have b10 : ((k : Int) == 10) = false := by simp; omega
  clear HE1
  by_cases hk5 : k = 5 ∨ k = 9
  · have HE2 := Lib.hid (HE3.out.trans (if_pos hk5))
    clear HE3 b1 b10 hk1 hk10
    rcases hk5 with rfl | rfl
    · go_enter Tryz.func32, Tryz.ntmps32
      go_upto_region 1 with (fail)
      generalize w.alloc (.cells #[.int .u8 ((5 : Nat) : Int), .int .i64 ref, .int .i64 lists] 47) = W0 at *
      obtain ⟨_, x0, x1, x2, _⟩ := blk3 HQ.out
      go_wp2_with fail
      refine (HS.out W0).mono ?_
      rintro e W1 ⟨rfl, hb1⟩
      have HB1 := Lib.hid hb1
      have HBW := Lib.hid (HB0.out.trans (hb1.mono HB0.out.size))
      have HGO := Lib.hid (jgoes_any (HA0.out.below hb1).at_)
      obtain ⟨_, x0, x1, x2, _⟩ := blk3 (blk_below HQ.out hb1 (blk_lt HQ.out))
      clear hb1
      go_wp2_with fail
      refine HGO.out.mono ?_
      rintro e W1' ⟨⟨bb, rfl, hgo, hoff⟩, rfl⟩
      cases bb
      · have HEND := Lib.hid (show JwTo base wk ak mk rv cv A L (enc ++ o) (pay + 20 * o.length) w W1 from ⟨A, .inr ((hoff rfl).more (by rw [List.length_append]; omega) (by omega)), .of_below A HBW.out⟩)
        clear hgo hoff
        go_wp2
        exact bodyPost_ret (v := .tuple #[]) (by simp [results, Tryz.results32, go_sem]) rfl ⟨rfl, HEND.out⟩
      have HG := Lib.hid (hgo rfl)
      clear hgo hoff HGO
      obtain ⟨_, x0, x1, x2, _⟩ := blk3 (blk_below HQ.out HB1.out (blk_lt HQ.out))
      have HDC := Lib.hid (jdec_any 5 n hn W1 ((HA0.out.ctx.step (.of_below A HB1.out)).rows W1 (OutD.refl _ _)).2)
      go_wp2_with fail
      refine HDC.out.mono ?_
      rintro e W2 ⟨S, rfl, hS, hS22, hb2⟩
      have HSB := Lib.hid hS
      have hn1 : ¬ 9223372036854775807 < (⟨#[34]⟩ : ByteArray).size + S.size := by show ¬ 9223372036854775807 < 1 + S.size; omega
      have hs1 : ((⟨#[34]⟩ : ByteArray) ++ S).size = 1 + S.size := by rw [ByteArray.size_append]; rfl
      have hn2 : ¬ 9223372036854775807 < ((⟨#[34]⟩ : ByteArray) ++ S).size + (⟨#[34]⟩ : ByteArray).size := by rw [hs1]; show ¬ 9223372036854775807 < 1 + S.size + 1; omega
      have hs2 : (((⟨#[34]⟩ : ByteArray) ++ S) ++ (⟨#[34]⟩ : ByteArray)).size = 1 + S.size + 1 := by rw [ByteArray.size_append, hs1]; rfl
      have HBT : Hid (bts (((⟨#[34]⟩ : ByteArray) ++ S) ++ (⟨#[34]⟩ : ByteArray)) = o) := Lib.hid (by rw [bts_append, bts_append, hS, HE2.out]; rfl)
      have HPS := Lib.hid (jputs_any (JwAt.below (.inl HG.out) hb2) (((⟨#[34]⟩ : ByteArray) ++ S) ++ (⟨#[34]⟩ : ByteArray)) (by omega))
      have HBW2 := Lib.hid (HBW.out.trans (hb2.mono HBW.out.size))
      have HSL : Hid ((((⟨#[34]⟩ : ByteArray) ++ S) ++ (⟨#[34]⟩ : ByteArray)).size = o.length) := Lib.hid (by rw [← bts_length, HBT.out])
      clear hS hb2 hs1 hs2 x0 x1 x2
      go_wp2_with fail
      refine HPS.out.mono ?_
      rintro e W3 ⟨rfl, ht⟩
      have HEND := Lib.hid (show JwTo base wk ak mk rv cv A L (enc ++ o) (pay + 20 * o.length) w W3 by
        have h1 := ht.from (.of_below A HBW2.out)
        rw [HBT.out] at h1
        refine h1.more ?_
        rw [HSL.out]
        omega)
      clear ht HPS
      go_wp2
      exact bodyPost_end (v := .tuple #[]) (by simp [results, Tryz.results32, go_sem]) rfl ⟨rfl, HEND.out⟩
    · go_enter Tryz.func32, Tryz.ntmps32
      go_upto_region 1 with (fail)
      generalize w.alloc (.cells #[.int .u8 ((9 : Nat) : Int), .int .i64 ref, .int .i64 lists] 47) = W0 at *
      obtain ⟨_, x0, x1, x2, _⟩ := blk3 HQ.out
      go_wp2_with fail
      refine (HS.out W0).mono ?_
      rintro e W1 ⟨rfl, hb1⟩
      have HB1 := Lib.hid hb1
      have HBW := Lib.hid (HB0.out.trans (hb1.mono HB0.out.size))
      have HGO := Lib.hid (jgoes_any (HA0.out.below hb1).at_)
      obtain ⟨_, x0, x1, x2, _⟩ := blk3 (blk_below HQ.out hb1 (blk_lt HQ.out))
      clear hb1
      go_wp2_with fail
      refine HGO.out.mono ?_
      rintro e W1' ⟨⟨bb, rfl, hgo, hoff⟩, rfl⟩
      cases bb
      · have HEND := Lib.hid (show JwTo base wk ak mk rv cv A L (enc ++ o) (pay + 20 * o.length) w W1 from ⟨A, .inr ((hoff rfl).more (by rw [List.length_append]; omega) (by omega)), .of_below A HBW.out⟩)
        clear hgo hoff
        go_wp2
        exact bodyPost_ret (v := .tuple #[]) (by simp [results, Tryz.results32, go_sem]) rfl ⟨rfl, HEND.out⟩
      have HG := Lib.hid (hgo rfl)
      clear hgo hoff HGO
      obtain ⟨_, x0, x1, x2, _⟩ := blk3 (blk_below HQ.out HB1.out (blk_lt HQ.out))
      have HDC := Lib.hid (jdec_any 9 n hn W1 ((HA0.out.ctx.step (.of_below A HB1.out)).rows W1 (OutD.refl _ _)).2)
      go_wp2_with fail
      refine HDC.out.mono ?_
      rintro e W2 ⟨S, rfl, hS, hS22, hb2⟩
      have HSB := Lib.hid hS
      have hn1 : ¬ 9223372036854775807 < (⟨#[34]⟩ : ByteArray).size + S.size := by show ¬ 9223372036854775807 < 1 + S.size; omega
      have hs1 : ((⟨#[34]⟩ : ByteArray) ++ S).size = 1 + S.size := by rw [ByteArray.size_append]; rfl
      have hn2 : ¬ 9223372036854775807 < ((⟨#[34]⟩ : ByteArray) ++ S).size + (⟨#[34]⟩ : ByteArray).size := by rw [hs1]; show ¬ 9223372036854775807 < 1 + S.size + 1; omega
      have hs2 : (((⟨#[34]⟩ : ByteArray) ++ S) ++ (⟨#[34]⟩ : ByteArray)).size = 1 + S.size + 1 := by rw [ByteArray.size_append, hs1]; rfl
      have HBT : Hid (bts (((⟨#[34]⟩ : ByteArray) ++ S) ++ (⟨#[34]⟩ : ByteArray)) = o) := Lib.hid (by rw [bts_append, bts_append, hS, HE2.out]; rfl)
      have HPS := Lib.hid (jputs_any (JwAt.below (.inl HG.out) hb2) (((⟨#[34]⟩ : ByteArray) ++ S) ++ (⟨#[34]⟩ : ByteArray)) (by omega))
      have HBW2 := Lib.hid (HBW.out.trans (hb2.mono HBW.out.size))
      have HSL : Hid ((((⟨#[34]⟩ : ByteArray) ++ S) ++ (⟨#[34]⟩ : ByteArray)).size = o.length) := Lib.hid (by rw [← bts_length, HBT.out])
      clear hS hb2 hs1 hs2 x0 x1 x2
      go_wp2_with fail
      refine HPS.out.mono ?_
      rintro e W3 ⟨rfl, ht⟩
      have HEND := Lib.hid (show JwTo base wk ak mk rv cv A L (enc ++ o) (pay + 20 * o.length) w W3 by
        have h1 := ht.from (.of_below A HBW2.out)
        rw [HBT.out] at h1
        refine h1.more ?_
        rw [HSL.out]
        omega)
      clear ht HPS
      go_wp2
      exact bodyPost_end (v := .tuple #[]) (by simp [results, Tryz.results32, go_sem]) rfl ⟨rfl, HEND.out⟩
  have HE2 := Lib.hid (HE3.out.trans (if_neg hk5))
  have b5 : ((k : Int) == 5) = false := by simp; omega
  have b9 : ((k : Int) == 9) = false := by simp; omega
  have i1 : ¬ (k : Int) = 1 := by omega
  have i10 : ¬ (k : Int) = 10 := by omega
  have i5 : ¬ (k : Int) = 5 := by omega
  have i9 : ¬ (k : Int) = 9 := by omega
  clear HE3 hk1 hk10 hk5
  go_enter Tryz.func32, Tryz.ntmps32
  go_upto_region 1 with (fail)
  generalize w.alloc (.cells #[.int .u8 k, .int .i64 ref, .int .i64 lists] 47) = W0 at *
  obtain ⟨_, x0, x1, x2, _⟩ := blk3 HQ.out
  go_wp2_with fail
  refine (HS.out W0).mono ?_
  rintro e W1 ⟨rfl, hb1⟩
  have HB1 := Lib.hid hb1
  have HBW := Lib.hid (HB0.out.trans (hb1.mono HB0.out.size))
  have HGO := Lib.hid (jgoes_any (HA0.out.below hb1).at_)
  obtain ⟨_, x0, x1, x2, _⟩ := blk3 (blk_below HQ.out hb1 (blk_lt HQ.out))
  clear hb1
  go_wp2_with fail
  refine HGO.out.mono ?_
  rintro e W1' ⟨⟨bb, rfl, hgo, hoff⟩, rfl⟩
  cases bb
  · have HEND := Lib.hid (show JwTo base wk ak mk rv cv A L (enc ++ o) (pay + 20 * o.length) w W1 from ⟨A, .inr ((hoff rfl).more (by rw [List.length_append]; omega) (by omega)), .of_below A HBW.out⟩)
    clear hgo hoff
    go_wp2
    exact bodyPost_ret (v := .tuple #[]) (by simp [results, Tryz.results32, go_sem]) rfl ⟨rfl, HEND.out⟩
  have HG := Lib.hid (hgo rfl)
  clear hgo hoff HGO
  obtain ⟨_, x0, x1, x2, _⟩ := blk3 (blk_below HQ.out HB1.out (blk_lt HQ.out))
  have HDC := Lib.hid (jdec_any k n hn W1 ((HA0.out.ctx.step (.of_below A HB1.out)).rows W1 (OutD.refl _ _)).2)
  go_wp2_with fail
  refine HDC.out.mono ?_
  rintro e W2 ⟨S, rfl, hS, hS22, hb2⟩
  have HSB := Lib.hid hS
  have HPS := Lib.hid (jputs_any (JwAt.below (.inl HG.out) hb2) S (by omega))
  have HBW2 := Lib.hid (HBW.out.trans (hb2.mono HBW.out.size))
  have HSL : Hid (S.size = o.length) := Lib.hid (by rw [← bts_length, hS, HE2.out])
  clear hS hb2 x0 x1 x2
  go_wp2_with fail
  refine HPS.out.mono ?_
  rintro e W3 ⟨rfl, ht⟩
  have HEND := Lib.hid (show JwTo base wk ak mk rv cv A L (enc ++ o) (pay + 20 * o.length) w W3 by
    have h1 := ht.from (.of_below A HBW2.out)
    rw [HSB.out, ← HE2.out] at h1
    refine h1.more ?_
    rw [HSL.out]
    omega)
  clear ht HPS
  go_wp2
  exact bodyPost_end (v := .tuple #[]) (by simp [results, Tryz.results32, go_sem]) rfl ⟨rfl, HEND.out⟩
set_option maxRecDepth 100000 in
set_option maxHeartbeats 4000000 in
theorem jbytes_any (h : JwAt base wk ak mk rv cv A L enc pay w) (k ref : Nat) (lists : Int) (hs : sortP k lists = 2) {S : Option Addr} {c : Nat} (hb : OutB w wk ak mk A S c bs) :
    Calls Tryz.prog 39 #[.pointer (some ⟨wk, 0, none⟩), .agg #[.int .u8 k, .int .i64 ref, .int .i64 lists], .slice S bs.length c] w fun e w' => e = .returned (.tuple #[]) ∧ JwTo base wk ak mk rv cv A L (enc ++ bytJ k bs) (pay + 20 * (bytJ k bs).length) w w' := by
  have hb0 := (Below.refl w.heap.size w).alloc (Nat.le_refl _) (.cells #[.int .u8 k, .int .i64 ref, .int .i64 lists] 47)
  have HB0 := Lib.hid hb0
  have HQ := Lib.hid (heap_alloc_new w (.cells #[.int .u8 k, .int .i64 ref, .int .i64 lists] 47))
  have HA0 := Lib.hid (h.below hb0)
  have HO0 := Lib.hid (hb.step (.of_below A hb0))
  have HE : Hid (bytJ k bs = if k = 11 then quot bs else 34 :: (digL bs ++ [34])) := Lib.hid rfl
  obtain ⟨o, ho⟩ : ∃ o, bytJ k bs = o := ⟨_, rfl⟩
  rw [ho] at HE ⊢
  have HS := Lib.hid (fun W : World => sorts_any k ref lists W)
  rw [hs] at HS
  clear h hb hb0 ho hs
  by_cases hk : k = 11
  · subst hk
    have HE2 := Lib.hid (HE.out.trans (if_pos rfl))
    clear HE
    go_enter Tryz.func39, Tryz.ntmps39
    go_upto_region 1 with (fail)
    generalize w.alloc (.cells #[.int .u8 ((11 : Nat) : Int), .int .i64 ref, .int .i64 lists] 47) = W0 at *
    obtain ⟨_, x0, x1, x2, _⟩ := blk3 HQ.out
    go_wp2_with fail
    refine (HS.out W0).mono ?_
    rintro e W1 ⟨rfl, hb1⟩
    have HB1 := Lib.hid hb1
    have HBW := Lib.hid (HB0.out.trans (hb1.mono HB0.out.size))
    obtain ⟨_, x0, x1, x2, _⟩ := blk3 (blk_below HQ.out hb1 (blk_lt HQ.out))
    clear hb1
    have HTX := Lib.hid (jtext_any (HA0.out.below HB1.out) (HO0.out.step (.of_below A HB1.out)))
    go_wp2_with fail
    refine HTX.out.mono ?_
    rintro e W3 ⟨rfl, ht⟩
    have HEND := Lib.hid (show JwTo base wk ak mk rv cv A L (enc ++ o) (pay + 20 * o.length) w W3 by
      have h1 := ht.from (.of_below A HBW.out)
      rw [← HE2.out] at h1
      exact h1.more (by omega))
    clear ht HTX
    go_wp2
    exact bodyPost_end (v := .tuple #[]) (by simp [results, Tryz.results39, go_sem]) rfl ⟨rfl, HEND.out⟩
  · have HE2 := Lib.hid (HE.out.trans (if_neg hk))
    have ik : ¬ (k : Int) = 11 := by omega
    have bk : ((k : Int) == 11) = false := by simp; omega
    clear HE hk
    go_enter Tryz.func39, Tryz.ntmps39
    go_upto_region 1 with (fail)
    generalize w.alloc (.cells #[.int .u8 k, .int .i64 ref, .int .i64 lists] 47) = W0 at *
    obtain ⟨_, x0, x1, x2, _⟩ := blk3 HQ.out
    go_wp2_with fail
    refine (HS.out W0).mono ?_
    rintro e W1 ⟨rfl, hb1⟩
    have HB1 := Lib.hid hb1
    have HBW := Lib.hid (HB0.out.trans (hb1.mono HB0.out.size))
    obtain ⟨_, x0, x1, x2, _⟩ := blk3 (blk_below HQ.out hb1 (blk_lt HQ.out))
    clear hb1
    have HTX := Lib.hid (jwdata_any (HA0.out.below HB1.out) (HO0.out.step (.of_below A HB1.out)))
    go_wp2_with fail
    refine HTX.out.mono ?_
    rintro e W3 ⟨rfl, ht⟩
    have HEND := Lib.hid (show JwTo base wk ak mk rv cv A L (enc ++ o) (pay + 20 * o.length) w W3 by
      have h1 := ht.from (.of_below A HBW.out)
      rw [← HE2.out] at h1
      exact h1.more (by omega))
    clear ht HTX
    go_wp2
    exact bodyPost_end (v := .tuple #[]) (by simp [results, Tryz.results39, go_sem]) rfl ⟨rfl, HEND.out⟩
end
end Go.Proofs.YtiknhkkeifemcaaGreatDoor
