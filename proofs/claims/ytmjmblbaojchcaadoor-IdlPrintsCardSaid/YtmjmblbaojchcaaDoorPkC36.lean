/-
  The document's own One, at a quoted text. Conditions: those that each theorem names; the library's tables hold what the row lists.
  The document's own One, at a sign and at a byte where no token stands; and One whatever stands there. Conditions: those that each theorem names; the library's tables hold what the row lists.
-/
import Derived.Test.YtmjmblbaojchcaaDoorPkC35
namespace Go.Proofs.YtmjmblbaojchcaaDoor
open Go.ChangeShapes Go.WideShapes Go.ChangeAt Go.RowKit Go.Shelf

/-- A token's block, as it was laid: its place alone. -/
def TokBlk (g : Nat) (p : Int) (W : World) : Prop := W.heap[g]? = some (.cells #[.int .i64 0, .string ⟨#[]⟩, .int .i64 p] 57 (0, 0))
theorem TokBlk.below {g B : Nat} {p : Int} {W W' : World} (h : TokBlk g p W) (hb : Below B W W') (hg : g < B) : TokBlk g p W' := (hb.block g hg).trans h
theorem TokBlk.facts {g : Nat} {p : Int} {W : World} (h : TokBlk g p W) : W.cell? ⟨g, 0, none⟩ = some (.int .i64 0) ∧ W.cell? ⟨g, 1, none⟩ = some (.string ⟨#[]⟩) ∧ W.cell? ⟨g, 2, none⟩ = some (.int .i64 p) ∧ W.frozen? ⟨g, 0, none⟩ = false ∧ W.frozen? ⟨g, 1, none⟩ = false ∧ W.frozen? ⟨g, 2, none⟩ = false := by
  refine ⟨?_, ?_, ?_, ?_, ?_, ?_⟩
  · rw [cell_of_row W g 0 _ _ (0, 0) h]; rfl
  · rw [cell_of_row W g 1 _ _ (0, 0) h]; rfl
  · rw [cell_of_row W g 2 _ _ (0, 0) h]; rfl
  · simp [World.frozen?, show W.heap[g]? = _ from h]
  · simp [World.frozen?, show W.heap[g]? = _ from h]
  · simp [World.frozen?, show W.heap[g]? = _ from h]
theorem two_blocks (w : World) (i : Nat) (S : ByteArray) :
    Below w.heap.size w (Lib.bytesWorld ((w.alloc (.cells #[.int .i64 0, .string ⟨#[]⟩, .int .i64 0] 57)).alloc (.cells #[.int .i64 0, .string ⟨#[]⟩, .int .i64 (i : Nat)] 57)) 5 S) ∧
    TokBlk w.heap.size 0 (Lib.bytesWorld ((w.alloc (.cells #[.int .i64 0, .string ⟨#[]⟩, .int .i64 0] 57)).alloc (.cells #[.int .i64 0, .string ⟨#[]⟩, .int .i64 (i : Nat)] 57)) 5 S) ∧
    TokBlk (w.heap.size + 1) (i : Nat) (Lib.bytesWorld ((w.alloc (.cells #[.int .i64 0, .string ⟨#[]⟩, .int .i64 0] 57)).alloc (.cells #[.int .i64 0, .string ⟨#[]⟩, .int .i64 (i : Nat)] 57)) 5 S) ∧
    w.heap.size + 1 < (Lib.bytesWorld ((w.alloc (.cells #[.int .i64 0, .string ⟨#[]⟩, .int .i64 0] 57)).alloc (.cells #[.int .i64 0, .string ⟨#[]⟩, .int .i64 (i : Nat)] 57)) 5 S).heap.size := by
  refine ⟨below_bytesWorld (two_new w _ _) (by rw [World.size_alloc, World.size_alloc]; omega) _ _, ?_, ?_, ?_⟩
  · unfold TokBlk
    rw [Lib.bytesWorld_at_old _ _ _ _ (by rw [World.size_alloc, World.size_alloc]; omega), Below.heap_alloc _ _ _ (by rw [World.size_alloc]; omega)]
    exact heap_alloc_new w _
  · unfold TokBlk
    rw [Lib.bytesWorld_at_old _ _ _ _ (by rw [World.size_alloc, World.size_alloc]; omega), show w.heap.size + 1 = (w.alloc (.cells #[.int .i64 0, .string ⟨#[]⟩, .int .i64 0] 57)).heap.size from (World.size_alloc ..).symm]
    exact heap_alloc_new _ _
  · rw [Lib.bytesWorld_size, World.size_alloc, World.size_alloc]
    omega
set_option maxRecDepth 100000 in
set_option maxHeartbeats 2000000 in
theorem one_quo (s sg : ByteArray) (x : Int) (i : Nat) (w : World) (hT : Tabs w) (hx : x = i) (hs : s.size ≤ 281474976710656) (h1 : stA (bts s) (isC 34) i = true) :
    Calls Tryd.prog 41 #[.string s, .string sg, .int .i64 x] w fun e w' => OneVal (if quoBad okU (bts s) i = true then none else some (⟨3, sub (bts s) (i + 1) (quoEnd (bts s) i), i⟩, quoEnd (bts s) i + 1)) e ∧ Below w.heap.size w w' := by
  subst hx
  have hi : i < s.size := by have := stA_lt h1; rwa [bts_length] at this
  have hc : (s[i].toNat : Int) = 34 := by rw [← bts_get hi]; exact of_decide_eq_true (stA_p h1)
  have hup := runTo_le (bts s) isPlain (i + 1) (by rw [bts_length]; omega)
  have hlo := runTo_ge (bts s) isPlain (i + 1)
  rw [bts_length] at hup
  have HB := Lib.hid (show quoBad okU (bts s) i = (!stA (bts s) (isC 34) (runTo (bts s) isPlain (i + 1)) || !okU (sub (bts s) (i + 1) (runTo (bts s) isPlain (i + 1)))) from rfl)
  have hNE : quoEnd (bts s) i = runTo (bts s) isPlain (i + 1) := rfl
  rw [hNE]
  obtain ⟨E, hE⟩ : ∃ E, runTo (bts s) isPlain (i + 1) = E := ⟨_, rfl⟩
  rw [hE] at hup hlo HB ⊢
  obtain ⟨r, hr⟩ : ∃ r, (if quoBad okU (bts s) i = true then none else some ((⟨3, sub (bts s) (i + 1) E, i⟩ : Tok), E + 1)) = r := ⟨_, rfl⟩
  have HRR := Lib.hid hr
  rw [hr]
  have HE := Lib.hid hE
  have HT := Lib.hid hT
  clear hr hE hNE h1 hT
  go_enter Tryd.func41, Tryd.ntmps41
  go_wp2_with fail
  refine (rletter_any _ _).mono ?_
  rintro e w1 ⟨rfl, rfl⟩
  rw [show isLet 34 = false from rfl]
  go_wp2_with fail
  refine (rdigit_any _ _).mono ?_
  rintro e w1 ⟨rfl, rfl⟩
  rw [show isDig 34 = false from rfl]
  go_wp2
  go_loop [10] (fun j => ∃ k : Nat, i + 1 ≤ k ∧ k ≤ E ∧ j = .int .i64 k ∧ runTo (bts s) isPlain k = E) (fun j => E - (intOf j).toNat)
  case atStart => exact ⟨i + 1, Nat.le_refl _, hlo, by go_num, HE.out⟩
  case round =>
    obtain ⟨k, hik, hkE, rfl, hj⟩ := hrel
    have HJ := Lib.hid hj
    have HAT := Lib.hid (fun W => at_any s k k W rfl)
    clear hj
    by_cases hkl : k < s.size
    · obtain ⟨z, hz⟩ : ∃ z, (bts s).getD k 0 = z := ⟨_, rfl⟩
      have hz0 := bts_bd s k
      rw [hz] at HAT hz0
      have hzk : (s[k].toNat : Int) = z := by rw [← bts_get hkl]; exact hz
      by_cases g1 : 32 ≤ z
      · by_cases g2 : z = 34
        · have HST := Lib.hid (show stA (bts s) isPlain k = false by rw [stA_of (by rw [bts_length]; exact hkl), hz]; exact decide_eq_false (by omega))
          have HQ := Lib.hid (show stA (bts s) (isC 34) k = true by rw [stA_of (by rw [bts_length]; exact hkl), hz]; exact decide_eq_true g2)
          have hkk : k = E := by
            rw [← HJ.out]
            exact (runTo_stop HST.out).symm
          subst hkk
          subst g2
          obtain ⟨S, hS⟩ : ∃ S, S = s.extract (i + 1) k := ⟨_, rfl⟩
          have kc := fun W => Lib.run_convert_string_bytes (P := Tryd.prog) W 9 22 5 S Tryd.underlying9 Tryd.underlying22 Tryd.underlying5
          have hSZ : S.size = k - (i + 1) := by rw [hS, ByteArray.size_extract]; omega
          have HSB := Lib.hid (show bts S = sub (bts s) (i + 1) k from by rw [hS]; exact bts_part s (i + 1) k)
          have HSX := Lib.hid (show S = strOfNums (sub (bts s) (i + 1) k) from by rw [hS]; exact ext_str s (i + 1) k)
          have hS' := hS.symm
          clear hz HST hS
          go_wp2_with fail
          refine (HAT.out _).mono ?_
          rintro e w2 ⟨rfl, rfl⟩
          go_wp2_with fail
          have hcap := grownCap_ge ((w.alloc (.cells #[.int .i64 0, .string ⟨#[]⟩, .int .i64 0] 57)).alloc (.cells #[.int .i64 0, .string ⟨#[]⟩, .int .i64 (i : Nat)] 57)) (k - (i + 1)) 0 5
          have hz0 := bytes_of_bytesWorld ((w.alloc (.cells #[.int .i64 0, .string ⟨#[]⟩, .int .i64 0] 57)).alloc (.cells #[.int .i64 0, .string ⟨#[]⟩, .int .i64 (i : Nat)] 57)) S
          obtain ⟨hb0, hR, hTk, hsz⟩ := two_blocks w i S
          simp only [World.size_alloc] at hz0
          generalize grownCap ((w.alloc (.cells #[.int .i64 0, .string ⟨#[]⟩, .int .i64 0] 57)).alloc (.cells #[.int .i64 0, .string ⟨#[]⟩, .int .i64 (i : Nat)] 57)) (k - (i + 1)) 0 5 = cap at hcap ⊢
          generalize Lib.bytesWorld ((w.alloc (.cells #[.int .i64 0, .string ⟨#[]⟩, .int .i64 0] 57)).alloc (.cells #[.int .i64 0, .string ⟨#[]⟩, .int .i64 (i : Nat)] 57)) 5 S = W0 at hb0 hR hTk hsz hz0 ⊢
          have HZ := Lib.hid (rtext_any (some ⟨w.heap.size + 1 + 1, 0, none⟩) cap (k - (i + 1)) (bts S) W0 (Tabs.below HT.out (Nat.le_refl _) hb0) hz0 (by rw [bts_length]; exact hSZ) (by omega) (by omega))
          rw [HSB.out] at HZ
          refine HZ.out.mono ?_
          rintro e W2 ⟨rfl, hb2⟩
          have HBW := Lib.hid (hb0.trans (hb2.mono hb0.size))
          have HRB := Lib.hid (hR.below hb2 (by omega))
          have HTK := Lib.hid (hTk.below hb2 (by omega))
          have hs2 : w.heap.size + 1 < W2.heap.size := Nat.lt_of_lt_of_le hsz hb2.size
          clear hb0 hR hTk hz0 hcap HZ hb2 hsz kc
          obtain ⟨r0, r1, r2, r3, r4, r5⟩ := HRB.out.facts
          obtain ⟨t0, t1, t2, t3, t4, t5⟩ := HTK.out.facts
          cases ho : okU (sub (bts s) (i + 1) k)
          · have HBB := Lib.hid (show quoBad okU (bts s) i = true by rw [HB.out, ho]; simp)
            clear ho
            go_wp2
            exact bodyPost_ret (v := .tuple #[.agg #[.int .i64 0, .string ⟨#[]⟩, .int .i64 i], .int .i64 k, .bool false]) (by simp [results, Tryd.results41, go_sem, r0, r1, r2]) rfl ⟨(show r = none by rw [← HRR.out, HBB.out]; rfl) ▸ ⟨_, _, _, _, rfl⟩, ((HBW.out.setCell (Nat.le_refl _) _).setCell (Nat.le_refl _) _).setCell (Nat.le_refl _) _⟩
          · have HBB := Lib.hid (show quoBad okU (bts s) i = false by rw [HB.out, HQ.out, ho]; rfl)
            clear ho
            go_wp2
            obtain rfl := HSX.out
            exact bodyPost_ret (v := .tuple #[.agg #[.int .i64 3, .string (strOfNums (sub (bts s) (i + 1) k)), .int .i64 i], .int .i64 (k + 1 : Nat), .bool true]) (by simp [results, Tryd.results41, go_sem, r0, r1, r2]) rfl ⟨(show r = some ((⟨3, sub (bts s) (i + 1) k, i⟩ : Tok), k + 1) by rw [← HRR.out, HBB.out]; rfl) ▸ rfl, ((((HBW.out.setCell (Nat.le_succ _) _).setCell (Nat.le_succ _) _).setCell (Nat.le_refl _) _).setCell (Nat.le_refl _) _).setCell (Nat.le_refl _) _⟩
        · by_cases g3 : z = 92
          · have b1 : (z != 34) = true := bne_iff_ne.2 g2
            have b2 : (z != 92) = false := by rw [g3]; rfl
            have HST := Lib.hid (show stA (bts s) isPlain k = false by rw [stA_of (by rw [bts_length]; exact hkl), hz]; exact decide_eq_false (by omega))
            have HQ := Lib.hid (show stA (bts s) (isC 34) k = false by rw [stA_of (by rw [bts_length]; exact hkl), hz]; exact decide_eq_false (by omega))
            have n34 : (z != 34) = true := bne_iff_ne.2 (by omega)
            clear hz g2 g3
            have hkk : k = E := by
              rw [← HJ.out]
              exact (runTo_stop HST.out).symm
            subst hkk
            have HBB := Lib.hid (show quoBad okU (bts s) i = true by rw [HB.out, HQ.out]; rfl)
            go_wp2_with fail
            refine (HAT.out _).mono ?_
            rintro e w2 ⟨rfl, rfl⟩
            go_wp2
            exact bodyPost_ret (v := .tuple #[.agg #[.int .i64 0, .string ⟨#[]⟩, .int .i64 i], .int .i64 k, .bool false]) (by simp [results, Tryd.results41, go_sem]) rfl ⟨(show r = none by rw [← HRR.out, HBB.out]; rfl) ▸ ⟨_, _, _, _, rfl⟩, two_new w _ _⟩
          · by_cases g4 : z = 127
            · have b1 : (z != 34) = true := bne_iff_ne.2 g2
              have b2 : (z != 92) = true := bne_iff_ne.2 g3
              have b3 : (z != 127) = false := by rw [g4]; rfl
              have HST := Lib.hid (show stA (bts s) isPlain k = false by rw [stA_of (by rw [bts_length]; exact hkl), hz]; exact decide_eq_false (by omega))
              have HQ := Lib.hid (show stA (bts s) (isC 34) k = false by rw [stA_of (by rw [bts_length]; exact hkl), hz]; exact decide_eq_false (by omega))
              have n34 : (z != 34) = true := bne_iff_ne.2 (by omega)
              clear hz g2 g3 g4
              have hkk : k = E := by
                rw [← HJ.out]
                exact (runTo_stop HST.out).symm
              subst hkk
              have HBB := Lib.hid (show quoBad okU (bts s) i = true by rw [HB.out, HQ.out]; rfl)
              go_wp2_with fail
              refine (HAT.out _).mono ?_
              rintro e w2 ⟨rfl, rfl⟩
              go_wp2
              exact bodyPost_ret (v := .tuple #[.agg #[.int .i64 0, .string ⟨#[]⟩, .int .i64 i], .int .i64 k, .bool false]) (by simp [results, Tryd.results41, go_sem]) rfl ⟨(show r = none by rw [← HRR.out, HBB.out]; rfl) ▸ ⟨_, _, _, _, rfl⟩, two_new w _ _⟩
            · have b1 : (z != 34) = true := bne_iff_ne.2 g2
              have b2 : (z != 92) = true := bne_iff_ne.2 g3
              have b3 : (z != 127) = true := bne_iff_ne.2 g4
              have hst : stA (bts s) isPlain k = true := by rw [stA_of (by rw [bts_length]; exact hkl), hz]; exact decide_eq_true (by omega)
              have HN := Lib.hid (HJ.out ▸ (runTo_step hst).symm)
              have hlt : k + 1 ≤ E := by have := runTo_ge (bts s) isPlain (k + 1); rw [HN.out] at this; exact this
              clear hst hz g2 g3 g4
              go_wp2
              go_round
              case rel => exact ⟨k + 1, by omega, hlt, by go_num, HN.out⟩
              case measure => simp [intOf]; omega
      · have HST := Lib.hid (show stA (bts s) isPlain k = false by rw [stA_of (by rw [bts_length]; exact hkl), hz]; exact decide_eq_false (by omega))
        have HQ := Lib.hid (show stA (bts s) (isC 34) k = false by rw [stA_of (by rw [bts_length]; exact hkl), hz]; exact decide_eq_false (by omega))
        have n34 : (z != 34) = true := bne_iff_ne.2 (by omega)
        clear hz
        have hkk : k = E := by
          rw [← HJ.out]
          exact (runTo_stop HST.out).symm
        subst hkk
        have HBB := Lib.hid (show quoBad okU (bts s) i = true by rw [HB.out, HQ.out]; rfl)
        go_wp2_with fail
        refine (HAT.out _).mono ?_
        rintro e w2 ⟨rfl, rfl⟩
        go_wp2
        exact bodyPost_ret (v := .tuple #[.agg #[.int .i64 0, .string ⟨#[]⟩, .int .i64 i], .int .i64 k, .bool false]) (by simp [results, Tryd.results41, go_sem]) rfl ⟨(show r = none by rw [← HRR.out, HBB.out]; rfl) ▸ ⟨_, _, _, _, rfl⟩, two_new w _ _⟩
    · have HST := Lib.hid (stA_ge (zs := bts s) (p := isPlain) (i := k) (by rw [bts_length]; omega))
      have HQ := Lib.hid (stA_ge (zs := bts s) (p := isC 34) (i := k) (by rw [bts_length]; omega))
      rw [bts_end (by omega)] at HAT
      have hkk : k = E := by
        rw [← HJ.out]
        exact (runTo_stop HST.out).symm
      subst hkk
      have HBB := Lib.hid (show quoBad okU (bts s) i = true by rw [HB.out, HQ.out]; rfl)
      go_wp2_with fail
      refine (HAT.out _).mono ?_
      rintro e w2 ⟨rfl, rfl⟩
      go_wp2
      exact bodyPost_ret (v := .tuple #[.agg #[.int .i64 0, .string ⟨#[]⟩, .int .i64 i], .int .i64 k, .bool false]) (by simp [results, Tryd.results41, go_sem]) rfl ⟨(show r = none by rw [← HRR.out, HBB.out]; rfl) ▸ ⟨_, _, _, _, rfl⟩, two_new w _ _⟩
end Go.Proofs.YtmjmblbaojchcaaDoor
namespace Go.Proofs.YtmjmblbaojchcaaDoor
open Go.ChangeShapes Go.WideShapes Go.ChangeAt Go.RowKit Go.Shelf

set_option maxRecDepth 100000 in
set_option maxHeartbeats 2000000 in
theorem one_sign (s sg : ByteArray) (x : Int) (i : Nat) (w : World) (hx : x = i) (hi : i < s.size) (hs : s.size ≤ 281474976710656) (hg : sg.size ≤ 9223372036854775807) (h1 : stA (bts s) isLet i = false) (h2 : begins (bts s) i = false) (h3 : stA (bts s) (isC 34) i = false) :
    Calls Tryd.prog 41 #[.string s, .string sg, .int .i64 x] w fun e w' => OneVal (if amg sg ((bts s).getD i 0) = true then some (⟨4, sub (bts s) i (i + 1), i⟩, i + 1) else none) e ∧ Below w.heap.size w w' := by
  subst hx
  unfold begins at h2
  rw [Bool.or_eq_false_iff] at h2
  obtain ⟨h4, h5⟩ := h2
  have hil : i < (bts s).length := by rw [bts_length]; exact hi
  rw [stA_of hil] at h1 h3 h4 h5
  rw [stA_at (p := isDig) rfl (i + 1)] at h5
  have hzi := bts_get hi
  have HHAS := Lib.hid (fun W => has_any sg ((bts s).getD i 0) W hg)
  obtain ⟨r, hr⟩ : ∃ r, (if amg sg ((bts s).getD i 0) = true then some ((⟨4, sub (bts s) i (i + 1), i⟩ : Tok), i + 1) else none) = r := ⟨_, rfl⟩
  have HR := Lib.hid hr
  have HX := Lib.hid (ext_str s i (i + 1))
  rw [hr]
  clear hr
  have HAT := Lib.hid (fun W => at_any s ((i : Int) + 1) (i + 1) W (by omega))
  generalize (bts s).getD i 0 = z at *
  generalize (bts s).getD (i + 1) 0 = z1 at *
  have hz : (s[i].toNat : Int) = z := hzi.symm
  have n34 : (z == 34) = false := h3
  have H1 := Lib.hid h1
  have H4 := Lib.hid h4
  have H5 := Lib.hid h5
  clear h1 h3 h4 h5 hzi hil
  by_cases h45 : z = 45
  · have t45 : (z == 45) = true := beq_iff_eq.2 h45
    have H5' := Lib.hid (show isDig z1 = false by have := H5.out; rw [h45] at this; exact this)
    clear h45
    go_enter Tryd.func41, Tryd.ntmps41
    go_wp2_with fail
    refine (rletter_any _ _).mono ?_
    rintro e w1 ⟨rfl, rfl⟩
    rw [H1.out]
    go_wp2_with fail
    refine (rdigit_any _ _).mono ?_
    rintro e w1 ⟨rfl, rfl⟩
    rw [H4.out]
    go_wp2_with fail
    refine (HAT.out _).mono ?_
    rintro e w1 ⟨rfl, rfl⟩
    go_wp2_with fail
    refine (rdigit_any _ _).mono ?_
    rintro e w1 ⟨rfl, rfl⟩
    rw [H5'.out]
    go_wp2_with fail
    refine (HHAS.out _).mono ?_
    rintro e w1 ⟨rfl, rfl⟩
    cases hq : amg sg z
    · have HRR := Lib.hid (show r = none by rw [← HR.out, hq]; rfl)
      clear hq
      go_wp2
      exact bodyPost_ret (v := .tuple #[.agg #[.int .i64 0, .string ⟨#[]⟩, .int .i64 i], .int .i64 i, .bool false]) (by simp [results, Tryd.results41, go_sem]) rfl ⟨HRR.out ▸ ⟨_, _, _, _, rfl⟩, two_new w _ _⟩
    · have HRR := Lib.hid (show r = some ((⟨4, sub (bts s) i (i + 1), i⟩ : Tok), i + 1) by rw [← HR.out, hq]; rfl)
      clear hq
      go_upto_region 33 with (fail)
      rw [HX.out]
      go_wp2
      exact bodyPost_ret (v := .tuple #[.agg #[.int .i64 4, .string (strOfNums (sub (bts s) i (i + 1))), .int .i64 i], .int .i64 (i + 1 : Nat), .bool true]) (by simp [results, Tryd.results41, go_sem]) rfl ⟨HRR.out ▸ rfl, two_new w _ _⟩
  · have t45 : (z == 45) = false := beq_eq_false_iff_ne.2 h45
    clear h45
    go_enter Tryd.func41, Tryd.ntmps41
    go_wp2_with fail
    refine (rletter_any _ _).mono ?_
    rintro e w1 ⟨rfl, rfl⟩
    rw [H1.out]
    go_wp2_with fail
    refine (rdigit_any _ _).mono ?_
    rintro e w1 ⟨rfl, rfl⟩
    rw [H4.out]
    go_wp2_with fail
    refine (HHAS.out _).mono ?_
    rintro e w1 ⟨rfl, rfl⟩
    cases hq : amg sg z
    · have HRR := Lib.hid (show r = none by rw [← HR.out, hq]; rfl)
      clear hq
      go_wp2
      exact bodyPost_ret (v := .tuple #[.agg #[.int .i64 0, .string ⟨#[]⟩, .int .i64 i], .int .i64 i, .bool false]) (by simp [results, Tryd.results41, go_sem]) rfl ⟨HRR.out ▸ ⟨_, _, _, _, rfl⟩, two_new w _ _⟩
    · have HRR := Lib.hid (show r = some ((⟨4, sub (bts s) i (i + 1), i⟩ : Tok), i + 1) by rw [← HR.out, hq]; rfl)
      clear hq
      go_upto_region 33 with (fail)
      rw [HX.out]
      go_wp2
      exact bodyPost_ret (v := .tuple #[.agg #[.int .i64 4, .string (strOfNums (sub (bts s) i (i + 1))), .int .i64 i], .int .i64 (i + 1 : Nat), .bool true]) (by simp [results, Tryd.results41, go_sem]) rfl ⟨HRR.out ▸ rfl, two_new w _ _⟩
/-- The document's own One. -/
theorem one_any (s sg : ByteArray) (x : Int) (i : Nat) (w : World) (hT : Tabs w) (hx : x = i) (hi : i ≤ s.size) (hs : s.size ≤ 281474976710656) (hg : sg.size ≤ 9223372036854775807) :
    Calls Tryd.prog 41 #[.string s, .string sg, .int .i64 x] w fun e w' => OneVal (tok okU (amg sg) (bts s) i) e ∧ Below w.heap.size w w' := by
  by_cases h0 : i = s.size
  · rw [tok_end (by rw [bts_length]; exact h0)]
    exact one_end s sg x i w hx h0
  have hlt : i < s.size := by omega
  have hil : i < (bts s).length := by rw [bts_length]; exact hlt
  cases h1 : stA (bts s) isLet i
  · cases h2 : begins (bts s) i
    · cases h3 : stA (bts s) (isC 34) i
      · have e : tok okU (amg sg) (bts s) i = if amg sg ((bts s).getD i 0) = true then some (⟨4, sub (bts s) i (i + 1), i⟩, i + 1) else none := by
          cases h4 : amg sg ((bts s).getD i 0)
          · rw [tok_none hil h1 h2 h3 (by rw [stA_of hil]; exact h4)]
            rfl
          · rw [tok_sign hil h1 h2 h3 (by rw [stA_of hil]; exact h4)]
            rfl
        rw [e]
        exact one_sign s sg x i w hx hlt hs hg h1 h2 h3
      · rw [tok_quo hil h1 h2 h3]
        exact one_quo s sg x i w hT hx hs h3
    · rw [tok_num hil h1 h2]
      exact one_num s sg x i w hx hs h1 h2
  · rw [tok_name hil h1]
    exact one_name s sg x i w hx hs h1
end Go.Proofs.YtmjmblbaojchcaaDoor
