/-
  The document's own One, at a number. Conditions: those that each theorem names.
-/
import Derived.Test.YtmjmblbaojchcaaDoorPkC34
namespace Go.Proofs.YtmjmblbaojchcaaDoor
open Go.ChangeShapes Go.WideShapes Go.ChangeAt Go.RowKit Go.Shelf

theorem numBad_sub (zs : List Int) (i : Nat) : numBad zs i = (!goodN (sub zs i (numEnd zs i)) || stA zs isLet (numEnd zs i)) := by
  rw [numBad_drop, numBad_text, numEnd_drop zs i, stA_drop]
  have := sub_drop zs i 0 (numEnd (zs.drop i) 0)
  rw [Nat.add_zero] at this
  rw [this, sub_zero]
theorem numEnd_dig {zs : List Int} {i : Nat} (h : stA zs isDig i = true) : numEnd zs i = runTo zs isDig (i + 1) := by
  have hm : minusTo zs i = i := by
    unfold minusTo
    rw [if_neg]
    intro h2
    have a := of_decide_eq_true (show decide (48 ≤ zs.getD i 0 ∧ zs.getD i 0 ≤ 57) = true from stA_p h)
    have b := of_decide_eq_true (show decide (zs.getD i 0 = 45) = true from stA_p h2)
    omega
  unfold numEnd
  rw [hm, runTo_step h]
theorem numEnd_min {zs : List Int} {i : Nat} (h : stA zs (isC 45) i = true) : numEnd zs i = runTo zs isDig (i + 1) := by
  have hm : minusTo zs i = i + 1 := by
    unfold minusTo
    rw [if_pos h]
  unfold numEnd
  rw [hm]
set_option maxRecDepth 100000 in
set_option maxHeartbeats 1000000 in
theorem one_num (s sg : ByteArray) (x : Int) (i : Nat) (w : World) (hx : x = i) (hs : s.size ≤ 281474976710656) (h1 : stA (bts s) isLet i = false) (h2 : begins (bts s) i = true) :
    Calls Tryd.prog 41 #[.string s, .string sg, .int .i64 x] w fun e w' => OneVal (if numBad (bts s) i = true then none else some (⟨2, sub (bts s) i (numEnd (bts s) i), i⟩, numEnd (bts s) i)) e ∧ Below w.heap.size w w' := by
  subst hx
  have h3 : stA (bts s) isDig i = true ∨ (stA (bts s) (isC 45) i = true ∧ stA (bts s) isDig (i + 1) = true) := by
    unfold begins at h2
    rw [Bool.or_eq_true, Bool.and_eq_true] at h2
    exact h2
  have hi : i < s.size := by
    rcases h3 with h | ⟨h, _⟩
    · have := stA_lt h; rwa [bts_length] at this
    · have := stA_lt h; rwa [bts_length] at this
  have H1 := Lib.hid (show isLet (s[i].toNat : Int) = false by rw [← bts_get hi, ← stA_at (p := isLet) rfl i]; exact h1)
  have hNE : numEnd (bts s) i = runTo (bts s) isDig (i + 1) := h3.elim numEnd_dig (fun h => numEnd_min h.1)
  have hup := runTo_le (bts s) isDig (i + 1) (by rw [bts_length]; omega)
  have hlo := runTo_ge (bts s) isDig (i + 1)
  rw [bts_length] at hup
  have HB := Lib.hid (numBad_sub (bts s) i)
  rw [hNE] at HB ⊢
  obtain ⟨E, hE⟩ : ∃ E, runTo (bts s) isDig (i + 1) = E := ⟨_, rfl⟩
  rw [hE] at hup hlo HB ⊢
  obtain ⟨r, hr⟩ : ∃ r, (if numBad (bts s) i = true then none else some ((⟨2, sub (bts s) i E, i⟩ : Tok), E)) = r := ⟨_, rfl⟩
  have HRR := Lib.hid hr
  rw [hr]
  clear hr
  have HE := Lib.hid hE
  clear hE hNE h1 h2
  rcases h3 with h3 | ⟨h3, h4⟩
  · have H3 := Lib.hid (show isDig (s[i].toNat : Int) = true by rw [← bts_get hi]; exact stA_p h3)
    clear h3
    go_enter Tryd.func41, Tryd.ntmps41
    go_wp2_with fail
    refine (rletter_any _ _).mono ?_
    rintro e w1 ⟨rfl, rfl⟩
    rw [H1.out]
    go_wp2_with fail
    refine (rdigit_any _ _).mono ?_
    rintro e w1 ⟨rfl, rfl⟩
    rw [H3.out]
    go_wp2
    go_loop [10] (fun j => ∃ k : Nat, i + 1 ≤ k ∧ k ≤ E ∧ j = .int .i64 k ∧ runTo (bts s) isDig k = E) (fun j => E - (intOf j).toNat)
    case atStart => exact ⟨i + 1, Nat.le_refl _, hlo, by go_num, HE.out⟩
    case round =>
      obtain ⟨k, hik, hkE, rfl, hj⟩ := hrel
      have HJ := Lib.hid hj
      have HS := Lib.hid (stA_at (s := s) (p := isDig) rfl k)
      have HS2 := Lib.hid (stA_at (s := s) (p := isLet) rfl k)
      have HAT := Lib.hid (fun W => at_any s k k W rfl)
      generalize (bts s).getD k 0 = z at HS HS2 HAT
      clear hj
      go_wp2_with fail
      refine (HAT.out _).mono ?_
      rintro e w2 ⟨rfl, rfl⟩
      go_wp2_with fail
      refine (rdigit_any _ _).mono ?_
      rintro e w2 ⟨rfl, rfl⟩
      cases hd : isDig z
      · have hkk : k = E := by
          rw [← HJ.out]
          exact (runTo_stop (by rw [HS.out, hd])).symm
        subst hkk
        have HX := Lib.hid (ext_str s i k)
        have HG := Lib.hid (fun W => rgood_any (s.extract i k) W (by rw [ByteArray.size_extract]; omega))
        rw [bts_part] at HG
        clear hd
        go_upto_region 18 with (fail)
        generalize s.extract i k = S at HX HG ⊢
        obtain rfl := HX.out
        generalize sub (bts s) i k = T at HX HG HB HRR ⊢
        go_wp2_with fail
        refine (HG.out _).mono ?_
        rintro e w2 ⟨rfl, rfl⟩
        cases hg : goodN T
        · have HBB := Lib.hid (show numBad (bts s) i = true by rw [HB.out, hg]; rfl)
          clear hg
          go_wp2
          exact bodyPost_ret (v := .tuple #[.agg #[.int .i64 2, .string (strOfNums T), .int .i64 i], .int .i64 k, .bool false]) (by simp [results, Tryd.results41, go_sem]) rfl ⟨(show r = none by rw [← HRR.out, HBB.out]; rfl) ▸ ⟨_, _, _, _, rfl⟩, two_new w _ _⟩
        · go_wp2_with fail
          refine (HAT.out _).mono ?_
          rintro e w2 ⟨rfl, rfl⟩
          go_wp2_with fail
          refine (rletter_any _ _).mono ?_
          rintro e w2 ⟨rfl, rfl⟩
          cases hl : isLet z
          · have HBB := Lib.hid (show numBad (bts s) i = false by rw [HB.out, hg, HS2.out, hl]; rfl)
            clear hg hl
            go_wp2
            exact bodyPost_ret (v := .tuple #[.agg #[.int .i64 2, .string (strOfNums T), .int .i64 i], .int .i64 k, .bool true]) (by simp [results, Tryd.results41, go_sem]) rfl ⟨(show r = some ((⟨2, T, i⟩ : Tok), k) by rw [← HRR.out, HBB.out]; rfl) ▸ rfl, two_new w _ _⟩
          · have HBB := Lib.hid (show numBad (bts s) i = true by rw [HB.out, hg, HS2.out, hl]; rfl)
            clear hg hl
            go_wp2
            exact bodyPost_ret (v := .tuple #[.agg #[.int .i64 2, .string (strOfNums T), .int .i64 i], .int .i64 k, .bool false]) (by simp [results, Tryd.results41, go_sem]) rfl ⟨(show r = none by rw [← HRR.out, HBB.out]; rfl) ▸ ⟨_, _, _, _, rfl⟩, two_new w _ _⟩
      · have HN := Lib.hid (HJ.out ▸ (runTo_step (by rw [HS.out, hd] : stA (bts s) isDig k = true)).symm)
        have hlt : k + 1 ≤ E := by have := runTo_ge (bts s) isDig (k + 1); rw [HN.out] at this; exact this
        clear hd
        go_wp2
        go_round
        case rel => exact ⟨k + 1, by omega, hlt, by go_num, HN.out⟩
        case measure => simp [intOf]; omega
  · have t45 : ((s[i].toNat : Int) == 45) = true := by rw [← bts_get hi]; exact stA_p h3
    have H3 := Lib.hid (show isDig (s[i].toNat : Int) = false by
      rw [beq_iff_eq] at t45
      rw [t45]
      rfl)
    have HP := Lib.hid (show isDig ((bts s).getD (i + 1) 0) = true from stA_p h4)
    have HA1 := Lib.hid (fun W => at_any s ((i : Int) + 1) (i + 1) W (by omega))
    generalize (bts s).getD (i + 1) 0 = z1 at HP HA1
    clear h3 h4
    go_enter Tryd.func41, Tryd.ntmps41
    go_wp2_with fail
    refine (rletter_any _ _).mono ?_
    rintro e w1 ⟨rfl, rfl⟩
    rw [H1.out]
    go_wp2_with fail
    refine (rdigit_any _ _).mono ?_
    rintro e w1 ⟨rfl, rfl⟩
    rw [H3.out]
    go_wp2_with fail
    refine (HA1.out _).mono ?_
    rintro e w1 ⟨rfl, rfl⟩
    go_wp2_with fail
    refine (rdigit_any _ _).mono ?_
    rintro e w1 ⟨rfl, rfl⟩
    rw [HP.out]
    clear t45
    go_wp2
    go_loop [10] (fun j => ∃ k : Nat, i + 1 ≤ k ∧ k ≤ E ∧ j = .int .i64 k ∧ runTo (bts s) isDig k = E) (fun j => E - (intOf j).toNat)
    case atStart => exact ⟨i + 1, Nat.le_refl _, hlo, by go_num, HE.out⟩
    case round =>
      obtain ⟨k, hik, hkE, rfl, hj⟩ := hrel
      have HJ := Lib.hid hj
      have HS := Lib.hid (stA_at (s := s) (p := isDig) rfl k)
      have HS2 := Lib.hid (stA_at (s := s) (p := isLet) rfl k)
      have HAT := Lib.hid (fun W => at_any s k k W rfl)
      generalize (bts s).getD k 0 = z at HS HS2 HAT
      clear hj
      go_wp2_with fail
      refine (HAT.out _).mono ?_
      rintro e w2 ⟨rfl, rfl⟩
      go_wp2_with fail
      refine (rdigit_any _ _).mono ?_
      rintro e w2 ⟨rfl, rfl⟩
      cases hd : isDig z
      · have hkk : k = E := by
          rw [← HJ.out]
          exact (runTo_stop (by rw [HS.out, hd])).symm
        subst hkk
        have HX := Lib.hid (ext_str s i k)
        have HG := Lib.hid (fun W => rgood_any (s.extract i k) W (by rw [ByteArray.size_extract]; omega))
        rw [bts_part] at HG
        clear hd
        go_upto_region 18 with (fail)
        generalize s.extract i k = S at HX HG ⊢
        obtain rfl := HX.out
        generalize sub (bts s) i k = T at HX HG HB HRR ⊢
        go_wp2_with fail
        refine (HG.out _).mono ?_
        rintro e w2 ⟨rfl, rfl⟩
        cases hg : goodN T
        · have HBB := Lib.hid (show numBad (bts s) i = true by rw [HB.out, hg]; rfl)
          clear hg
          go_wp2
          exact bodyPost_ret (v := .tuple #[.agg #[.int .i64 2, .string (strOfNums T), .int .i64 i], .int .i64 k, .bool false]) (by simp [results, Tryd.results41, go_sem]) rfl ⟨(show r = none by rw [← HRR.out, HBB.out]; rfl) ▸ ⟨_, _, _, _, rfl⟩, two_new w _ _⟩
        · go_wp2_with fail
          refine (HAT.out _).mono ?_
          rintro e w2 ⟨rfl, rfl⟩
          go_wp2_with fail
          refine (rletter_any _ _).mono ?_
          rintro e w2 ⟨rfl, rfl⟩
          cases hl : isLet z
          · have HBB := Lib.hid (show numBad (bts s) i = false by rw [HB.out, hg, HS2.out, hl]; rfl)
            clear hg hl
            go_wp2
            exact bodyPost_ret (v := .tuple #[.agg #[.int .i64 2, .string (strOfNums T), .int .i64 i], .int .i64 k, .bool true]) (by simp [results, Tryd.results41, go_sem]) rfl ⟨(show r = some ((⟨2, T, i⟩ : Tok), k) by rw [← HRR.out, HBB.out]; rfl) ▸ rfl, two_new w _ _⟩
          · have HBB := Lib.hid (show numBad (bts s) i = true by rw [HB.out, hg, HS2.out, hl]; rfl)
            clear hg hl
            go_wp2
            exact bodyPost_ret (v := .tuple #[.agg #[.int .i64 2, .string (strOfNums T), .int .i64 i], .int .i64 k, .bool false]) (by simp [results, Tryd.results41, go_sem]) rfl ⟨(show r = none by rw [← HRR.out, HBB.out]; rfl) ▸ ⟨_, _, _, _, rfl⟩, two_new w _ _⟩
      · have HN := Lib.hid (HJ.out ▸ (runTo_step (by rw [HS.out, hd] : stA (bts s) isDig k = true)).symm)
        have hlt : k + 1 ≤ E := by have := runTo_ge (bts s) isDig (k + 1); rw [HN.out] at this; exact this
        clear hd
        go_wp2
        go_round
        case rel => exact ⟨k + 1, by omega, hlt, by go_num, HN.out⟩
        case measure => simp [intOf]; omega
end Go.Proofs.YtmjmblbaojchcaaDoor
