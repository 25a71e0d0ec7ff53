/-
  The scanner's units, and the package scan's meant: the sign of one unit of UTF-16 or of two; the sign that a byte behind a \ stands for. Conditions: those that each theorem names.
  The package scan's meant, and the scanner's escaped and sign: the sign that stands between quotes. Condition: the library's tables hold what the row lists.
-/
import Derived.Test.YtneadcbadnicfaaDoorSnD
namespace Go.Proofs.YtneadcbadnicfaaDoor
open Go.ChangeShapes Go.WideShapes Go.ChangeAt Go.RowKit Go.Shelf

/-- What a call that asks for a sign leaves: the sign and the place behind it; or false, at whatever place. -/
def SgnPost (w : World) (s mb : Nat) (p : Option Addr) (n cap K : Nat) (zs : List Int) (o : Option (Nat × Nat)) (e : Ending) (w' : World) : Prop :=
  (∃ r b, o = some (r, b) ∧ e = .returned (.tuple #[.int .i32 (r : Nat), .bool true]) ∧ ScTo w s mb p n cap K zs b w') ∨
  (o = none ∧ ∃ x a', e = .returned (.tuple #[.int .i32 x, .bool false]) ∧ ScTo w s mb p n cap K zs a' w')
section
variable {w w' : World} {s mb : Nat} {p : Option Addr} {n cap K : Nat} {zs : List Int} {o : Option (Nat × Nat)}
theorem SgnPost.no {x : Int} {a' : Nat} (h : o = none) (h2 : ScTo w s mb p n cap K zs a' w') : SgnPost w s mb p n cap K zs o (.returned (.tuple #[.int .i32 x, .bool false])) w' := .inr ⟨h, x, a', rfl, h2⟩
theorem SgnPost.yes {x : Int} {r b : Nat} (h : o = some (r, b)) (hx : x = r) (h2 : ScTo w s mb p n cap K zs b w') : SgnPost w s mb p n cap K zs o (.returned (.tuple #[.int .i32 x, .bool true])) w' := by
  subst hx
  exact .inl ⟨r, b, h, rfl, h2⟩
theorem SgnPost.after {w1 : World} {e : Ending} {b : Nat} (h : ScTo w s mb p n cap K zs b w1) (k : SgnPost w1 s mb p n cap K zs o e w') : SgnPost w s mb p n cap K zs o e w' := by
  rcases k with ⟨r, b, h1, h2, h3⟩ | ⟨h1, x, a', h2, h3⟩
  · exact .inl ⟨r, b, h1, h2, h.then h3⟩
  · exact .inr ⟨h1, x, a', h2, h.then h3⟩
end
set_option maxHeartbeats 1600000 in
theorem units_any (s mb : Nat) (p : Option Addr) (n cap K : Nat) (zs : List Int) (a : Nat) (w : World) (h : ScSt w s mb p n cap K zs a) :
    Calls Tryd.prog 60 #[.pointer (some ⟨s, 0, none⟩)] w fun e w' => SgnPost w s mb p n cap K zs (unitsAt zs a) e w' := by
  have U1 := Lib.hid (unit_any s mb p n cap K zs a w h)
  obtain ⟨o, ho⟩ : ∃ o, unitsAt zs a = o := ⟨_, rfl⟩
  rw [ho]
  unfold unitsAt at ho
  have hu := @unitAt_lt zs a
  generalize unitAt zs a = u at U1 ho hu
  clear h
  cases u with
  | none =>
    have U1' : Hid (Calls Tryd.prog 70 #[.pointer (some ⟨s, 0, none⟩)] w fun e w' => e = .returned (.tuple #[.int .i32 0, .bool false]) ∧ ScTo w s mb p n cap K zs a w') := U1
    have HO : Hid (o = none) := ho.symm
    clear U1 ho hu
    go_enter Tryd.func60, Tryd.ntmps60
    go_wp2_with fail
    refine U1'.out.mono ?_
    rintro e w1 ⟨rfl, h1⟩
    have H1 := Lib.hid h1
    clear h1
    go_wp2
    go_ret2
    exact .no HO.out H1.out
  | some u =>
    obtain ⟨hu0, _⟩ := hu rfl
    have hu1 : (u : Int) < 65536 := by omega
    clear hu0
    have U1' : Hid (Calls Tryd.prog 70 #[.pointer (some ⟨s, 0, none⟩)] w fun e w' => e = .returned (.tuple #[.int .i32 (u : Nat), .bool true]) ∧ ScTo w s mb p n cap K zs (a + 4) w') := U1
    clear U1 hu
    simp only at ho
    obtain ⟨x, hx⟩ : ∃ x : Int, x = (u : Int) := ⟨_, rfl⟩
    rw [← hx] at U1' hu1
    have HX := Lib.hid hx
    by_cases c1 : x < 55296
    · rw [if_pos (.inl (by omega))] at ho
      have HO : Hid (o = some (u, a + 4)) := ho.symm
      clear ho hx
      go_enter Tryd.func60, Tryd.ntmps60
      go_wp2_with fail
      refine U1'.out.mono ?_
      rintro e w1 ⟨rfl, h1⟩
      have H1 := Lib.hid h1
      clear h1
      go_wp2
      go_ret2
      exact .yes HO.out HX.out H1.out
    by_cases c2 : 57343 < x
    · rw [if_pos (.inr (by omega))] at ho
      have HO : Hid (o = some (u, a + 4)) := ho.symm
      clear ho hx
      go_enter Tryd.func60, Tryd.ntmps60
      go_wp2_with fail
      refine U1'.out.mono ?_
      rintro e w1 ⟨rfl, h1⟩
      have H1 := Lib.hid h1
      clear h1
      go_wp2
      go_ret2
      exact .yes HO.out HX.out H1.out
    rw [if_neg (by omega)] at ho
    by_cases c3 : 56320 ≤ x
    · rw [if_pos (by omega)] at ho
      have HO : Hid (o = none) := ho.symm
      clear ho hx
      go_enter Tryd.func60, Tryd.ntmps60
      go_wp2_with fail
      refine U1'.out.mono ?_
      rintro e w1 ⟨rfl, h1⟩
      have H1 := Lib.hid h1
      clear h1
      go_wp2
      go_ret2
      exact .no HO.out H1.out
    rw [if_neg (by omega)] at ho
    have T1 := Lib.hid (fun W h => taken_any s mb p n cap K zs (a + 4) 92 W h)
    cases t1 : stA zs (isC 92) (a + 4)
    · have HO : Hid (o = none) := by rw [if_neg (by rw [t1]; exact fun h => by cases h.1)] at ho; exact ho.symm
      rw [t1] at T1
      clear ho hx t1
      go_enter Tryd.func60, Tryd.ntmps60
      go_wp2_with fail
      refine U1'.out.mono ?_
      rintro e w1 ⟨rfl, h1⟩
      have H1 := Lib.hid h1
      clear h1
      go_wp2_with fail
      refine (T1.out _ H1.out.2).mono ?_
      rintro e w2 ⟨rfl, h2⟩
      have H2 := Lib.hid (H1.out.then h2)
      clear h2
      go_wp2
      go_ret2
      exact .no HO.out H2.out
    have T1' : Hid (∀ W, ScSt W s mb p n cap K zs (a + 4) → Calls Tryd.prog 32 #[.pointer (some ⟨s, 0, none⟩), .int .u8 92] W fun e w' => e = .returned (.bool true) ∧ ScTo W s mb p n cap K zs (a + 5) w') := by rw [t1] at T1; exact T1
    clear T1
    have T2 := Lib.hid (fun W h => taken_any s mb p n cap K zs (a + 5) 117 W h)
    cases t2 : stA zs (isC 117) (a + 5)
    · have HO : Hid (o = none) := by rw [if_neg (by rw [t2]; exact fun h => by cases h.2)] at ho; exact ho.symm
      rw [t2] at T2
      clear ho hx t1 t2
      go_enter Tryd.func60, Tryd.ntmps60
      go_wp2_with fail
      refine U1'.out.mono ?_
      rintro e w1 ⟨rfl, h1⟩
      have H1 := Lib.hid h1
      clear h1
      go_wp2_with fail
      refine (T1'.out _ H1.out.2).mono ?_
      rintro e w2 ⟨rfl, h2⟩
      have H2 := Lib.hid (H1.out.then h2)
      clear h2
      go_wp2_with fail
      refine (T2.out _ H2.out.2).mono ?_
      rintro e w3 ⟨rfl, h3⟩
      have H3 := Lib.hid (H2.out.then h3)
      clear h3
      go_wp2
      go_ret2
      exact .no HO.out H3.out
    have T2' : Hid (∀ W, ScSt W s mb p n cap K zs (a + 5) → Calls Tryd.prog 32 #[.pointer (some ⟨s, 0, none⟩), .int .u8 117] W fun e w' => e = .returned (.bool true) ∧ ScTo W s mb p n cap K zs (a + 6) w') := by rw [t2] at T2; exact T2
    clear T2
    rw [if_pos ⟨t1, t2⟩] at ho
    clear t1 t2
    have V1 := Lib.hid (fun W h => unit_any s mb p n cap K zs (a + 6) W h)
    have hv := @unitAt_lt zs (a + 6)
    generalize unitAt zs (a + 6) = v at V1 ho hv
    cases v with
    | none =>
      have V1' : Hid (∀ W, ScSt W s mb p n cap K zs (a + 6) → Calls Tryd.prog 70 #[.pointer (some ⟨s, 0, none⟩)] W fun e w' => e = .returned (.tuple #[.int .i32 0, .bool false]) ∧ ScTo W s mb p n cap K zs (a + 6) w') := V1
      have HO : Hid (o = none) := ho.symm
      clear V1 ho hv hx
      go_enter Tryd.func60, Tryd.ntmps60
      go_wp2_with fail
      refine U1'.out.mono ?_
      rintro e w1 ⟨rfl, h1⟩
      have H1 := Lib.hid h1
      clear h1
      go_wp2_with fail
      refine (T1'.out _ H1.out.2).mono ?_
      rintro e w2 ⟨rfl, h2⟩
      have H2 := Lib.hid (H1.out.then h2)
      clear h2
      go_wp2_with fail
      refine (T2'.out _ H2.out.2).mono ?_
      rintro e w3 ⟨rfl, h3⟩
      have H3 := Lib.hid (H2.out.then h3)
      clear h3
      go_wp2_with fail
      refine (V1'.out _ H3.out.2).mono ?_
      rintro e w4 ⟨rfl, h4⟩
      have H4 := Lib.hid (H3.out.then h4)
      clear h4
      go_wp2
      go_ret2
      exact .no HO.out H4.out
    | some v =>
      have hv0 := (hv rfl).1
      have hv1 : (v : Int) < 65536 := by omega
      clear hv0
      have V1' : Hid (∀ W, ScSt W s mb p n cap K zs (a + 6) → Calls Tryd.prog 70 #[.pointer (some ⟨s, 0, none⟩)] W fun e w' => e = .returned (.tuple #[.int .i32 (v : Nat), .bool true]) ∧ ScTo W s mb p n cap K zs (a + 10) w') := V1
      have HO0 := Lib.hid ho
      obtain ⟨y, hy⟩ : ∃ y : Int, y = (v : Int) := ⟨_, rfl⟩
      rw [← hy] at V1' hv1
      have HY := Lib.hid hy
      clear V1 hv ho
      by_cases c4 : y < 56320
      · have HO : Hid (o = none) := by have ho := HO0.out; simp only at ho; rw [if_pos (.inl (by omega))] at ho; exact ho.symm
        clear hx hy
        go_enter Tryd.func60, Tryd.ntmps60
        go_wp2_with fail
        refine U1'.out.mono ?_
        rintro e w1 ⟨rfl, h1⟩
        have H1 := Lib.hid h1
        clear h1
        go_wp2_with fail
        refine (T1'.out _ H1.out.2).mono ?_
        rintro e w2 ⟨rfl, h2⟩
        have H2 := Lib.hid (H1.out.then h2)
        clear h2
        go_wp2_with fail
        refine (T2'.out _ H2.out.2).mono ?_
        rintro e w3 ⟨rfl, h3⟩
        have H3 := Lib.hid (H2.out.then h3)
        clear h3
        go_wp2_with fail
        refine (V1'.out _ H3.out.2).mono ?_
        rintro e w4 ⟨rfl, h4⟩
        have H4 := Lib.hid (H3.out.then h4)
        clear h4
        go_wp2
        go_ret2
        exact .no HO.out H4.out
      by_cases c5 : 57343 < y
      · have HO : Hid (o = none) := by have ho := HO0.out; simp only at ho; rw [if_pos (.inr (by omega))] at ho; exact ho.symm
        clear hx hy
        go_enter Tryd.func60, Tryd.ntmps60
        go_wp2_with fail
        refine U1'.out.mono ?_
        rintro e w1 ⟨rfl, h1⟩
        have H1 := Lib.hid h1
        clear h1
        go_wp2_with fail
        refine (T1'.out _ H1.out.2).mono ?_
        rintro e w2 ⟨rfl, h2⟩
        have H2 := Lib.hid (H1.out.then h2)
        clear h2
        go_wp2_with fail
        refine (T2'.out _ H2.out.2).mono ?_
        rintro e w3 ⟨rfl, h3⟩
        have H3 := Lib.hid (H2.out.then h3)
        clear h3
        go_wp2_with fail
        refine (V1'.out _ H3.out.2).mono ?_
        rintro e w4 ⟨rfl, h4⟩
        have H4 := Lib.hid (H3.out.then h4)
        clear h4
        go_wp2
        go_ret2
        exact .no HO.out H4.out
      · have HO : Hid (o = some (65536 + (u - 55296) * 1024 + (v - 56320), a + 10)) := by have ho := HO0.out; simp only at ho; rw [if_neg (by omega)] at ho; exact ho.symm
        clear hx hy
        obtain ⟨A, hA⟩ : ∃ A : Int, x - 55296 = A := ⟨_, rfl⟩
        obtain ⟨B, hB⟩ : ∃ B : Int, y - 56320 = B := ⟨_, rfl⟩
        have a0 : 0 ≤ A := by omega
        have a1 : A < 1024 := by omega
        have b0 : 0 ≤ B := by omega
        have b1 : B < 1024 := by omega
        have HE := Lib.hid (show (65536 + A * 1024 + B : Int) = ((65536 + (u - 55296) * 1024 + (v - 56320) : Nat) : Int) by have := HX.out; have := HY.out; omega)
        go_enter Tryd.func60, Tryd.ntmps60
        go_wp2_with fail
        refine U1'.out.mono ?_
        rintro e w1 ⟨rfl, h1⟩
        have H1 := Lib.hid h1
        clear h1
        go_wp2_with fail
        refine (T1'.out _ H1.out.2).mono ?_
        rintro e w2 ⟨rfl, h2⟩
        have H2 := Lib.hid (H1.out.then h2)
        clear h2
        go_wp2_with fail
        refine (T2'.out _ H2.out.2).mono ?_
        rintro e w3 ⟨rfl, h3⟩
        have H3 := Lib.hid (H2.out.then h3)
        clear h3
        go_wp2_with fail
        refine (V1'.out _ H3.out.2).mono ?_
        rintro e w4 ⟨rfl, h4⟩
        have H4 := Lib.hid (H3.out.then h4)
        clear h4
        go_wp2
        go_ret2
        exact .yes HO.out HE.out H4.out
theorem meant_any (c : Int) (w : World) : Calls Tryd.prog 61 #[.int .u8 c] w fun e w' => e = .returned (runV (meantC c)) ∧ w = w' := by
  by_cases h34 : c = 34
  · subst h34
    go_enter Tryd.func61, Tryd.ntmps61
    go_wp2
    go_ret2
    exact ⟨rfl, rfl⟩
  by_cases h92 : c = 92
  · subst h92
    go_enter Tryd.func61, Tryd.ntmps61
    go_wp2
    go_ret2
    exact ⟨rfl, rfl⟩
  by_cases h47 : c = 47
  · subst h47
    go_enter Tryd.func61, Tryd.ntmps61
    go_wp2
    go_ret2
    exact ⟨rfl, rfl⟩
  by_cases h98 : c = 98
  · subst h98
    go_enter Tryd.func61, Tryd.ntmps61
    go_wp2
    go_ret2
    exact ⟨rfl, rfl⟩
  by_cases h102 : c = 102
  · subst h102
    go_enter Tryd.func61, Tryd.ntmps61
    go_wp2
    go_ret2
    exact ⟨rfl, rfl⟩
  by_cases h110 : c = 110
  · subst h110
    go_enter Tryd.func61, Tryd.ntmps61
    go_wp2
    go_ret2
    exact ⟨rfl, rfl⟩
  by_cases h114 : c = 114
  · subst h114
    go_enter Tryd.func61, Tryd.ntmps61
    go_wp2
    go_ret2
    exact ⟨rfl, rfl⟩
  by_cases h116 : c = 116
  · subst h116
    go_enter Tryd.func61, Tryd.ntmps61
    go_wp2
    go_ret2
    exact ⟨rfl, rfl⟩
  rw [show meantC c = none by unfold meantC; rw [if_neg h34, if_neg h92, if_neg h47, if_neg h98, if_neg h102, if_neg h110, if_neg h114, if_neg h116]]
  have t34 : (c == 34) = false := by simpa using h34
  have t92 : (c == 92) = false := by simpa using h92
  have t47 : (c == 47) = false := by simpa using h47
  have t98 : (c == 98) = false := by simpa using h98
  have t102 : (c == 102) = false := by simpa using h102
  have t110 : (c == 110) = false := by simpa using h110
  have t114 : (c == 114) = false := by simpa using h114
  have t116 : (c == 116) = false := by simpa using h116
  clear h34 h92 h47 h98 h102 h110 h114 h116
  go_enter Tryd.func61, Tryd.ntmps61
  go_wp2
  go_ret2
  exact ⟨rfl, rfl⟩
theorem esc_any (s mb : Nat) (p : Option Addr) (n cap K : Nat) (zs : List Int) (a : Nat) (w : World) (h : ScSt w s mb p n cap K zs a) :
    Calls Tryd.prog 48 #[.pointer (some ⟨s, 0, none⟩)] w fun e w' => SgnPost w s mb p n cap K zs (escAt zs a) e w' := by
  have T1 := Lib.hid (taken_any s mb p n cap K zs a 117 w h)
  obtain ⟨o, ho⟩ : ∃ o, escAt zs a = o := ⟨_, rfl⟩
  rw [ho]
  unfold escAt at ho
  cases t1 : stA zs (isC 117) a
  · have T1' : Hid (Calls Tryd.prog 32 #[.pointer (some ⟨s, 0, none⟩), .int .u8 117] w fun e w' => e = .returned (.bool false) ∧ ScTo w s mb p n cap K zs a w') := by rw [t1] at T1; exact T1
    rw [if_neg (by rw [t1]; decide)] at ho
    have hcap := h.cap_
    have hhigh := h.high
    have hlow := h.low
    have hlen := h.len
    clear T1 t1
    by_cases hi : a < n
    · rw [if_pos (by omega)] at ho
      obtain ⟨hbd, hp⟩ := h.by_
      obtain ⟨b, off, rfl, hlt, hc⟩ := hp (by rintro rfl; simp at hlen; omega)
      have hci := Lib.hid (hc a (by omega))
      generalize zs.getD a 0 = z at hci ho
      have M1 := Lib.hid (fun W => meant_any z W)
      generalize meantC z = m at M1 ho
      have P1 := Lib.hid (fun W => part_pos b off n cap a 1 W (by omega) hcap (by omega) (by omega))
      have HO := Lib.hid ho
      clear ho hc hp hbd h hlen
      go_enter Tryd.func48, Tryd.ntmps48
      go_wp2_with fail
      refine T1'.out.mono ?_
      rintro e w1 ⟨rfl, h1⟩
      have H1 := Lib.hid h1
      obtain ⟨hs, c0, c1, c2, f0, f1, f2⟩ := blk3 h1.2.blk
      have np := h1.2.np _ rfl
      have cz := cell_exw h1.1 hci.out np.1 np.2
      clear h1 np
      go_wp2
      go_quiet (first | (go_at_call 38; exact quiet_same (P1.out _)))
      cases m with
      | none =>
        have M1' : Hid (∀ W, Calls Tryd.prog 61 #[.int .u8 z] W fun e w' => e = .returned (.tuple #[.int .i32 0, .bool false]) ∧ W = w') := M1
        clear M1
        go_wp2_with fail
        refine (M1'.out _).mono ?_
        rintro e w2 ⟨rfl, rfl⟩
        go_wp2
        go_ret2
        exact .no HO.out.symm (H1.out.bel (bel_drewN (Below.refl _ _) _))
      | some m =>
        have M1' : Hid (∀ W, Calls Tryd.prog 61 #[.int .u8 z] W fun e w' => e = .returned (.tuple #[.int .i32 (m : Nat), .bool true]) ∧ W = w') := M1
        clear M1
        go_wp2_with fail
        refine (M1'.out _).mono ?_
        rintro e w2 ⟨rfl, rfl⟩
        go_wp2_with fail
        refine (take_any s mb _ n cap K zs a 1 _ (H1.out.bel (bel_drewN (Below.refl _ _) _)).2 (by omega)).mono ?_
        rintro e w3 ⟨rfl, h3⟩
        have H3 := Lib.hid h3
        clear h3
        go_wp2
        go_ret2
        exact .yes HO.out.symm rfl ((H1.out.bel (bel_drewN (Below.refl _ _) _)).then H3.out)
    · rw [if_neg (by omega)] at ho
      have HO := Lib.hid ho
      have P1 := Lib.hid (fun W => part_no p n cap (a : Nat) 1 W (by omega) (.inr (.inr (.inr (by omega)))))
      clear ho h hlen
      go_enter Tryd.func48, Tryd.ntmps48
      go_wp2_with fail
      refine T1'.out.mono ?_
      rintro e w1 ⟨rfl, h1⟩
      have H1 := Lib.hid h1
      obtain ⟨hs, c0, c1, c2, f0, f1, f2⟩ := blk3 h1.2.blk
      clear h1
      go_wp2
      go_quiet (first | (go_at_call 38; exact quiet_same (P1.out _)))
      go_wp2
      go_ret2
      exact .no HO.out.symm (H1.out.bel (bel_drewN (Below.refl _ _) _))
  · have T1' : Hid (Calls Tryd.prog 32 #[.pointer (some ⟨s, 0, none⟩), .int .u8 117] w fun e w' => e = .returned (.bool true) ∧ ScTo w s mb p n cap K zs (a + 1) w') := by rw [t1] at T1; exact T1
    rw [if_pos t1] at ho
    clear T1 t1 h
    have U1 := Lib.hid (fun W h => units_any s mb p n cap K zs (a + 1) W h)
    rw [ho] at U1
    clear ho
    go_enter Tryd.func48, Tryd.ntmps48
    go_wp2_with fail
    refine T1'.out.mono ?_
    rintro e w1 ⟨rfl, h1⟩
    have H1 := Lib.hid h1
    clear h1
    go_wp2_with fail
    refine (U1.out _ H1.out.2).mono ?_
    rintro e w2 (⟨r, b, h1, rfl, h3⟩ | ⟨h1, x, a', rfl, h3⟩)
    · have H2 := Lib.hid h3
      have HO := Lib.hid h1
      clear h1 h3
      go_wp2
      go_ret2
      exact .yes HO.out rfl (H1.out.then H2.out)
    · have H2 := Lib.hid h3
      have HO := Lib.hid h1
      clear h1 h3
      go_wp2
      go_ret2
      exact .no HO.out (H1.out.then H2.out)
end Go.Proofs.YtneadcbadnicfaaDoor
