/-
  The scanner's calls pass, Blank, Sign, End: all bytes of a kind that come next. Conditions: those that each theorem names.
-/
import Derived.Test.YtneadcbadnicfaaDoorSnB
import Derived.Test.YtneadcbadnicfaaDoorKinds
namespace Go.Proofs.YtneadcbadnicfaaDoor
open Go.ChangeShapes Go.WideShapes Go.ChangeAt Go.RowKit Go.Shelf

theorem sblank1 (c : Int) (w : World) : Calls Tryd.prog 43 #[.int .u8 c] w fun e w' => e = .returned (.bool (isBlank c)) ∧ Below w.heap.size w w' := by
  by_cases h1 : c = 32
  · subst h1
    go_enter Tryd.func43, Tryd.ntmps43
    go_wp2
    go_ret
    exact ⟨rfl, Below.refl _ _⟩
  by_cases h2 : c = 9
  · subst h2
    go_enter Tryd.func43, Tryd.ntmps43
    go_wp2
    go_ret
    exact ⟨rfl, Below.refl _ _⟩
  by_cases h3 : c = 10
  · subst h3
    go_enter Tryd.func43, Tryd.ntmps43
    go_wp2
    go_ret
    exact ⟨rfl, Below.refl _ _⟩
  by_cases h4 : c = 13
  · subst h4
    go_enter Tryd.func43, Tryd.ntmps43
    go_wp2
    go_ret
    exact ⟨rfl, Below.refl _ _⟩
  rw [show isBlank c = false by unfold isBlank; rw [decide_eq_false_iff_not]; omega]
  have t1 : (c == 32) = false := by simpa using h1
  have t2 : (c == 9) = false := by simpa using h2
  have t3 : (c == 10) = false := by simpa using h3
  have t4 : (c == 13) = false := by simpa using h4
  clear h1 h2 h3 h4
  go_enter Tryd.func43, Tryd.ntmps43
  go_wp2
  go_ret
  exact ⟨rfl, Below.refl _ _⟩
theorem sdigit1 (c : Int) (w : World) : Calls Tryd.prog 41 #[.int .u8 c] w fun e w' => e = .returned (.bool (isDig c)) ∧ Below w.heap.size w w' := by
  by_cases h1 : 48 ≤ c
  · by_cases h2 : c ≤ 57
    · rw [show isDig c = true by unfold isDig; rw [decide_eq_true_iff]; omega]
      go_enter Tryd.func41, Tryd.ntmps41
      go_wp2
      go_ret
      exact ⟨rfl, Below.refl _ _⟩
    · rw [show isDig c = false by unfold isDig; rw [decide_eq_false_iff_not]; omega]
      go_enter Tryd.func41, Tryd.ntmps41
      go_wp2
      go_ret
      exact ⟨rfl, Below.refl _ _⟩
  · rw [show isDig c = false by unfold isDig; rw [decide_eq_false_iff_not]; omega]
    go_enter Tryd.func41, Tryd.ntmps41
    go_wp2
    go_ret
    exact ⟨rfl, Below.refl _ _⟩
theorem kind_blank (w : World) : IsKind w 43 #[] isBlank :=
  ⟨enters_of Tryd.func43 (by kernel_rfl) rfl, fun W c _ _ _ => sblank1 c W⟩
theorem kind_digit (w : World) : IsKind w 41 #[] isDig :=
  ⟨enters_of Tryd.func41 (by kernel_rfl) rfl, fun W c _ _ _ => sdigit1 c W⟩
theorem pass_any (s mb : Nat) (p : Option Addr) (n cap K : Nat) (zs : List Int) (a : Nat) (g : Nat) (k : Int → Bool) (w : World) (h : ScSt w s mb p n cap K zs a) (hk : IsKind w g #[] k) :
    Calls Tryd.prog 42 #[.pointer (some ⟨s, 0, none⟩), .func (.func g) #[] #[]] w fun e w' => e = .returned (.bool true) ∧ ScTo w s mb p n cap K zs (runTo zs k a) w' := by
  have H := Lib.hid h
  have HK := Lib.hid hk
  have hle := h.le
  have hcap := h.cap_
  have hhigh := h.high
  have hlow := h.low
  have en := hk.enters
  have c1 := (blk3 h.blk).2.2.1
  clear h hk
  go_enter Tryd.func42, Tryd.ntmps42
  go_wp2
  go_loopw [5] (fun i' wr => Below w.heap.size w wr ∧ ∃ j : Nat, a ≤ j ∧ j ≤ n ∧ i' = .int .i64 j ∧ runTo zs k a = runTo zs k j) (fun i' _ => n - (intOf i').toNat)
  case atStart => exact ⟨Below.refl _ _, a, Nat.le_refl _, hle, rfl, rfl⟩
  case round =>
    obtain ⟨hb, j, haj, hj, rfl, hr⟩ := hrel
    have HB := Lib.hid hb
    have HR := Lib.hid hr
    obtain ⟨hs, d0, d1, d2, f0, f1, f2⟩ := blk3 (H.out.below hb).blk
    have HY := Lib.hid (H.out.below hb).by_
    clear hb hr c1 hle
    by_cases hi : j < n
    · have t : decide ((j : Int) < (n : Int)) = true := by simp; exact hi
      obtain ⟨hbd, hp⟩ := HY.out
      have hlen := Lib.hid H.out.len
      obtain ⟨b, off, rfl, hlt, hc⟩ := hp (by intro e; have := hlen.out; rw [e] at this; simp at this; omega)
      have hci := hc j (by rw [hlen.out]; omega)
      have hz := hbd j
      have E := Lib.hid (stA_of (p := k) (show j < zs.length by rw [hlen.out]; exact hi))
      generalize zs.getD j 0 = z at hci hz E
      have G := Lib.hid (HK.out.gives _ z hz.1 hz.2 HB.out)
      clear hc hp hbd HY
      cases hkz : k z
      · rw [hkz] at E G
        have E2 := Lib.hid (runTo_stop E.out)
        clear hkz hz
        go_wp2_with fail
        refine G.out.mono ?_
        rintro e w1 ⟨rfl, hb1⟩
        have HB1 := Lib.hid (HB.out.trans (hb1.mono HB.out.size))
        obtain ⟨_, g0, g1, g2, _, _, _⟩ := blk3 (H.out.below HB1.out).blk
        clear hb1
        have e3 : ((j : Int) - (a : Int)) = ((j - a : Nat) : Int) := by omega
        go_wp2_with fail
        refine (take_any s mb _ n cap K zs a (j - a) _ (H.out.below HB1.out) (by omega)).mono ?_
        rintro e w2 ⟨rfl, h2⟩
        have H2 := Lib.hid h2
        clear h2
        go_wp2
        go_ret
        refine ⟨rfl, ?_⟩
        rw [HR.out, E2.out, show j = a + (j - a) by omega]
        exact ScTo.after HB1.out H2.out
      · rw [hkz] at E G
        have E2 := Lib.hid (runTo_step E.out)
        clear hkz hz
        go_wp2_with fail
        refine G.out.mono ?_
        rintro e w1 ⟨rfl, hb1⟩
        have HB1 := Lib.hid (HB.out.trans (hb1.mono HB.out.size))
        clear hb1
        go_wp2
        go_roundw
        case rel => exact ⟨HB1.out, j + 1, by omega, by omega, by go_num, by rw [HR.out, E2.out]⟩
        case measure => simp [intOf]; omega
    · have t : decide ((j : Int) < (n : Int)) = false := by simp; omega
      obtain rfl : n = j := by omega
      have E2 := Lib.hid (runTo_stop (stA_ge (zs := zs) (p := k) (show zs.length ≤ n by rw [H.out.len]; omega)))
      have e3 : ((n : Int) - (a : Int)) = ((n - a : Nat) : Int) := by omega
      go_wp2_with fail
      refine (take_any s mb _ n cap K zs a (n - a) _ (H.out.below HB.out) (by omega)).mono ?_
      rintro e w2 ⟨rfl, h2⟩
      have H2 := Lib.hid h2
      clear h2
      go_wp2
      go_ret
      refine ⟨rfl, ?_⟩
      rw [HR.out, E2.out]
      have H3 := H2.out
      rw [show a + (n - a) = n by omega] at H3
      exact ScTo.after HB.out H3
theorem sc_blank (s mb : Nat) (p : Option Addr) (n cap K : Nat) (zs : List Int) (a : Nat) (w : World) (h : ScSt w s mb p n cap K zs a) :
    Calls Tryd.prog 27 #[.pointer (some ⟨s, 0, none⟩)] w fun e w' => e = .returned (.tuple #[]) ∧ ScTo w s mb p n cap K zs (runTo zs isBlank a) w' := by
  have H := Lib.hid h
  clear h
  go_enter Tryd.func27, Tryd.ntmps27
  go_wp2_with fail
  refine (pass_any s mb p n cap K zs a _ isBlank _ H.out (kind_blank _)).mono ?_
  rintro e w1 ⟨rfl, h1⟩
  have H1 := Lib.hid h1
  clear h1
  go_wp2
  first | refine bodyPost_end (v := .tuple #[]) (by simp [results, Tryd.results27, go_sem]) rfl ?_ | refine bodyPost_ret (v := .tuple #[]) (by simp [results, Tryd.results27, go_sem]) rfl ?_
  exact ⟨rfl, H1.out⟩
theorem sign_any (s mb : Nat) (p : Option Addr) (n cap K : Nat) (zs : List Int) (a : Nat) (c : Int) (w : World) (h : ScSt w s mb p n cap K zs a) :
    Calls Tryd.prog 16 #[.pointer (some ⟨s, 0, none⟩), .int .u8 c] w fun e w' => e = .returned (.bool (stA zs (isC c) (runTo zs isBlank a))) ∧
      ScTo w s mb p n cap K zs (if stA zs (isC c) (runTo zs isBlank a) = true then runTo zs isBlank a + 1 else runTo zs isBlank a) w' := by
  have H := Lib.hid h
  clear h
  have S1 := Lib.hid (sc_blank s mb p n cap K zs a w H.out)
  generalize runTo zs isBlank a = b at S1 ⊢
  have S2 := Lib.hid (fun W h => taken_any s mb p n cap K zs b c W h)
  generalize (if stA zs (isC c) b = true then b + 1 else b) = b2 at S2 ⊢
  generalize stA zs (isC c) b = r at S2 ⊢
  go_enter Tryd.func16, Tryd.ntmps16
  go_wp2_with fail
  refine S1.out.mono ?_
  rintro e w1 ⟨rfl, h1⟩
  have H1 := Lib.hid h1
  clear h1
  go_wp2_with fail
  refine (S2.out _ H1.out.2).mono ?_
  rintro e w2 ⟨rfl, h2⟩
  have H2 := Lib.hid h2
  clear h2
  go_wp2
  go_ret
  exact ⟨rfl, H1.out.then H2.out⟩
theorem sc_end (s mb : Nat) (p : Option Addr) (n cap K : Nat) (zs : List Int) (a : Nat) (w : World) (h : ScSt w s mb p n cap K zs a) :
    Calls Tryd.prog 21 #[.pointer (some ⟨s, 0, none⟩)] w fun e w' => e = .returned (.bool (decide (runTo zs isBlank a = zs.length))) ∧ ScTo w s mb p n cap K zs (runTo zs isBlank a) w' := by
  have H := Lib.hid h
  have hlen := h.len
  clear h
  have S1 := Lib.hid (sc_blank s mb p n cap K zs a w H.out)
  rw [hlen]
  clear hlen
  generalize runTo zs isBlank a = b at S1 ⊢
  have e1 : ((b : Int) == (n : Int)) = decide (b = n) := by rw [Bool.eq_iff_iff, beq_iff_eq, decide_eq_true_iff]; omega
  rw [← e1]
  clear e1
  generalize hr : ((b : Int) == (n : Int)) = r
  go_enter Tryd.func21, Tryd.ntmps21
  go_wp2_with fail
  refine S1.out.mono ?_
  rintro e w1 ⟨rfl, h1⟩
  have H1 := Lib.hid h1
  obtain ⟨hs, c0, c1, c2, f0, f1, f2⟩ := blk3 h1.2.blk
  clear h1
  go_wp2
  go_quiet (fail)
  go_wp2
  go_ret
  exact ⟨ret_bool (by first | rfl | exact hr), H1.out.bel (bel_drewN (Below.refl _ _) _)⟩
theorem sc_at (s mb : Nat) (p : Option Addr) (n cap K : Nat) (zs : List Int) (a : Nat) (w : World) (h : ScSt w s mb p n cap K zs a) :
    Calls Tryd.prog 13 #[.pointer (some ⟨s, 0, none⟩)] w fun e w' => e = .returned (.int .i64 (a : Nat)) ∧ w = w' := by
  obtain ⟨hs, c0, c1, c2, f0, f1, f2⟩ := blk3 h.blk
  clear h
  go_enter Tryd.func13, Tryd.ntmps13
  go_wp2
  go_ret
  exact ⟨rfl, rfl⟩
end Go.Proofs.YtneadcbadnicfaaDoor
