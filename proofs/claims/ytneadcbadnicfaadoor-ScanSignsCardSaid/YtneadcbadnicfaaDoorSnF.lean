/-
  The package scan's meant, and the scanner's escaped and sign: the sign that stands between quotes. Condition: the library's tables hold what the row lists.
-/
import Derived.Test.YtneadcbadnicfaaDoorSnE
namespace Go.Proofs.YtneadcbadnicfaaDoor
open Go.ChangeShapes Go.WideShapes Go.ChangeAt Go.RowKit Go.Shelf

theorem meant_any (c : Int) (w : World) : Calls Tryd.prog 61 #[.int .u8 c] w fun e w' => e = .returned (runV (meantC c)) ∧ w = w' := by
  by_cases h34 : c = 34
  · subst h34
    go_enter Tryd.func61, Tryd.ntmps61
    go_wp2
    go_ret2
    exact ⟨rfl, rfl⟩
  by_cases h92 : c = 92
  · subst h92
    go_enter Tryd.func61, Tryd.ntmps61
    go_wp2
    go_ret2
    exact ⟨rfl, rfl⟩
  by_cases h47 : c = 47
  · subst h47
    go_enter Tryd.func61, Tryd.ntmps61
    go_wp2
    go_ret2
    exact ⟨rfl, rfl⟩
  by_cases h98 : c = 98
  · subst h98
    go_enter Tryd.func61, Tryd.ntmps61
    go_wp2
    go_ret2
    exact ⟨rfl, rfl⟩
  by_cases h102 : c = 102
  · subst h102
    go_enter Tryd.func61, Tryd.ntmps61
    go_wp2
    go_ret2
    exact ⟨rfl, rfl⟩
  by_cases h110 : c = 110
  · subst h110
    go_enter Tryd.func61, Tryd.ntmps61
    go_wp2
    go_ret2
    exact ⟨rfl, rfl⟩
  by_cases h114 : c = 114
  · subst h114
    go_enter Tryd.func61, Tryd.ntmps61
    go_wp2
    go_ret2
    exact ⟨rfl, rfl⟩
  by_cases h116 : c = 116
  · subst h116
    go_enter Tryd.func61, Tryd.ntmps61
    go_wp2
    go_ret2
    exact ⟨rfl, rfl⟩
  rw [show meantC c = none by unfold meantC; rw [if_neg h34, if_neg h92, if_neg h47, if_neg h98, if_neg h102, if_neg h110, if_neg h114, if_neg h116]]
  have t34 : (c == 34) = false := by simpa using h34
  have t92 : (c == 92) = false := by simpa using h92
  have t47 : (c == 47) = false := by simpa using h47
  have t98 : (c == 98) = false := by simpa using h98
  have t102 : (c == 102) = false := by simpa using h102
  have t110 : (c == 110) = false := by simpa using h110
  have t114 : (c == 114) = false := by simpa using h114
  have t116 : (c == 116) = false := by simpa using h116
  clear h34 h92 h47 h98 h102 h110 h114 h116
  go_enter Tryd.func61, Tryd.ntmps61
  go_wp2
  go_ret2
  exact ⟨rfl, rfl⟩
theorem esc_any (s mb : Nat) (p : Option Addr) (n cap K : Nat) (zs : List Int) (a : Nat) (w : World) (h : ScSt w s mb p n cap K zs a) :
    Calls Tryd.prog 48 #[.pointer (some ⟨s, 0, none⟩)] w fun e w' => SgnPost w s mb p n cap K zs (escAt zs a) e w' := by
  have T1 := Lib.hid (taken_any s mb p n cap K zs a 117 w h)
  obtain ⟨o, ho⟩ : ∃ o, escAt zs a = o := ⟨_, rfl⟩
  rw [ho]
  unfold escAt at ho
  cases t1 : stA zs (isC 117) a
  · have T1' : Hid (Calls Tryd.prog 32 #[.pointer (some ⟨s, 0, none⟩), .int .u8 117] w fun e w' => e = .returned (.bool false) ∧ ScTo w s mb p n cap K zs a w') := by rw [t1] at T1; exact T1
    rw [if_neg (by rw [t1]; decide)] at ho
    have hcap := h.cap_
    have hhigh := h.high
    have hlow := h.low
    have hlen := h.len
    clear T1 t1
    by_cases hi : a < n
    · rw [if_pos (by omega)] at ho
      obtain ⟨hbd, hp⟩ := h.by_
      obtain ⟨b, off, rfl, hlt, hc⟩ := hp (by rintro rfl; simp at hlen; omega)
      have hci := Lib.hid (hc a (by omega))
      generalize zs.getD a 0 = z at hci ho
      have M1 := Lib.hid (fun W => meant_any z W)
      generalize meantC z = m at M1 ho
      have P1 := Lib.hid (fun W => part_pos b off n cap a 1 W (by omega) hcap (by omega) (by omega))
      have HO := Lib.hid ho
      clear ho hc hp hbd h hlen
      go_enter Tryd.func48, Tryd.ntmps48
      go_wp2_with fail
      refine T1'.out.mono ?_
      rintro e w1 ⟨rfl, h1⟩
      have H1 := Lib.hid h1
      obtain ⟨hs, c0, c1, c2, f0, f1, f2⟩ := blk3 h1.2.blk
      have np := h1.2.np _ rfl
      have cz := cell_exw h1.1 hci.out np.1 np.2
      clear h1 np
      go_wp2
      go_quiet (first | (go_at_call 38; exact quiet_same (P1.out _)))
      cases m with
      | none =>
        have M1' : Hid (∀ W, Calls Tryd.prog 61 #[.int .u8 z] W fun e w' => e = .returned (.tuple #[.int .i32 0, .bool false]) ∧ W = w') := M1
        clear M1
        go_wp2_with fail
        refine (M1'.out _).mono ?_
        rintro e w2 ⟨rfl, rfl⟩
        go_wp2
        go_ret2
        exact .no HO.out.symm (H1.out.bel (bel_drewN (Below.refl _ _) _))
      | some m =>
        have M1' : Hid (∀ W, Calls Tryd.prog 61 #[.int .u8 z] W fun e w' => e = .returned (.tuple #[.int .i32 (m : Nat), .bool true]) ∧ W = w') := M1
        clear M1
        go_wp2_with fail
        refine (M1'.out _).mono ?_
        rintro e w2 ⟨rfl, rfl⟩
        go_wp2_with fail
        refine (take_any s mb _ n cap K zs a 1 _ (H1.out.bel (bel_drewN (Below.refl _ _) _)).2 (by omega)).mono ?_
        rintro e w3 ⟨rfl, h3⟩
        have H3 := Lib.hid h3
        clear h3
        go_wp2
        go_ret2
        exact .yes HO.out.symm rfl ((H1.out.bel (bel_drewN (Below.refl _ _) _)).then H3.out)
    · rw [if_neg (by omega)] at ho
      have HO := Lib.hid ho
      have P1 := Lib.hid (fun W => part_no p n cap (a : Nat) 1 W (by omega) (.inr (.inr (.inr (by omega)))))
      clear ho h hlen
      go_enter Tryd.func48, Tryd.ntmps48
      go_wp2_with fail
      refine T1'.out.mono ?_
      rintro e w1 ⟨rfl, h1⟩
      have H1 := Lib.hid h1
      obtain ⟨hs, c0, c1, c2, f0, f1, f2⟩ := blk3 h1.2.blk
      clear h1
      go_wp2
      go_quiet (first | (go_at_call 38; exact quiet_same (P1.out _)))
      go_wp2
      go_ret2
      exact .no HO.out.symm (H1.out.bel (bel_drewN (Below.refl _ _) _))
  · have T1' : Hid (Calls Tryd.prog 32 #[.pointer (some ⟨s, 0, none⟩), .int .u8 117] w fun e w' => e = .returned (.bool true) ∧ ScTo w s mb p n cap K zs (a + 1) w') := by rw [t1] at T1; exact T1
    rw [if_pos t1] at ho
    clear T1 t1 h
    have U1 := Lib.hid (fun W h => units_any s mb p n cap K zs (a + 1) W h)
    rw [ho] at U1
    clear ho
    go_enter Tryd.func48, Tryd.ntmps48
    go_wp2_with fail
    refine T1'.out.mono ?_
    rintro e w1 ⟨rfl, h1⟩
    have H1 := Lib.hid h1
    clear h1
    go_wp2_with fail
    refine (U1.out _ H1.out.2).mono ?_
    rintro e w2 (⟨r, b, h1, rfl, h3⟩ | ⟨h1, x, a', rfl, h3⟩)
    · have H2 := Lib.hid h3
      have HO := Lib.hid h1
      clear h1 h3
      go_wp2
      go_ret2
      exact .yes HO.out rfl (H1.out.then H2.out)
    · have H2 := Lib.hid h3
      have HO := Lib.hid h1
      clear h1 h3
      go_wp2
      go_ret2
      exact .no HO.out (H1.out.then H2.out)
end Go.Proofs.YtneadcbadnicfaaDoor
