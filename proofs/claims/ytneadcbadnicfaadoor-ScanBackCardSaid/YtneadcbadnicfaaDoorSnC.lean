/-
  The scanner of the package scan in memory, with a meter that is enough; its calls New, At, stands, take, taken. Conditions: those that each theorem names.
  The scanner's calls stands and taken: is that byte next? Conditions: those that each theorem names.
  The scanner's calls pass, Blank, Sign, End: all bytes of a kind that come next. Conditions: those that each theorem names.
-/
import Derived.Test.YtneadcbadnicfaaDoorExw
import Derived.Test.YtneadcbadnicfaaDoorMeter
import Derived.Test.YtneadcbadnicfaaDoorByt
import Derived.Test.YtneadcbadnicfaaDoorLexPlain
import Derived.Deep.QuietTactic
import Derived.Test.YtneadcbadnicfaaDoorQuiet
import Derived.Test.YtneadcbadnicfaaDoorKinds
namespace Go.Proofs.YtneadcbadnicfaaDoor
open Go.ChangeShapes Go.WideShapes Go.ChangeAt Go.RowKit Go.Shelf

/-- A scanner at place a of the bytes zs; of the meter K - a steps are left, and K is at least as much as there are bytes. -/
structure ScSt (W : World) (s mb : Nat) (p : Option Addr) (n cap K : Nat) (zs : List Int) (a : Nat) : Prop where
  blk : W.heap[s]? = some (.cells #[.slice p n cap, .int .i64 (a : Nat), .pointer (some ⟨mb, 0, none⟩)] 69 (0, 0))
  met : W.heap[mb]? = some (.cells #[.int .i64 ((K : Int) - (a : Int)), .bool false] 74 (0, 0))
  by_ : Bytes W p zs
  len : zs.length = n
  cap_ : n ≤ cap
  ne : s ≠ mb
  np : ∀ q, p = some q → q.block ≠ s ∧ q.block ≠ mb
  le : a ≤ n
  low : n ≤ K
  high : K ≤ 2199023255552
section
variable {w : World} {s mb : Nat} {p : Option Addr} {n cap K : Nat} {zs : List Int} {a : Nat}
theorem Bytes.exw {W W' : World} {R S : Nat} {p : Option Addr} {zs : List Int} (h : Bytes W p zs) (hb : Exw R S W.heap.size W W') (hp : ∀ q, p = some q → q.block ≠ R ∧ q.block ≠ S) : Bytes W' p zs := by
  refine ⟨h.1, fun hne => ?_⟩
  obtain ⟨b, off, rfl, hlt, hc⟩ := h.2 hne
  obtain ⟨h1, h2⟩ := hp _ rfl
  exact ⟨b, off, rfl, Nat.lt_of_lt_of_le hlt hb.size, fun i hi => cell_exw hb (hc i hi) h1 h2⟩
theorem ScSt.below {w' : World} (h : ScSt w s mb p n cap K zs a) (hb : Below w.heap.size w w') : ScSt w' s mb p n cap K zs a :=
  ⟨blk_below h.blk hb (blk_lt h.blk), blk_below h.met hb (blk_lt h.met), h.by_.below (Nat.le_refl _) hb, h.len, h.cap_, h.ne, h.np, h.le, h.low, h.high⟩
/-- A step of the scanner. -/
def ScTo (w : World) (s mb : Nat) (p : Option Addr) (n cap K : Nat) (zs : List Int) (a : Nat) (w' : World) : Prop := Exw s mb w.heap.size w w' ∧ ScSt w' s mb p n cap K zs a
theorem ScTo.then {w1 w2 : World} {b c : Nat} (h : ScTo w s mb p n cap K zs b w1) (k : ScTo w1 s mb p n cap K zs c w2) : ScTo w s mb p n cap K zs c w2 := ⟨h.1.then k.1, k.2⟩
theorem ScTo.after {w1 w2 : World} {c : Nat} (h : Below w.heap.size w w1) (k : ScTo w1 s mb p n cap K zs c w2) : ScTo w s mb p n cap K zs c w2 := ⟨.after h k.1, k.2⟩
theorem ScTo.bel {w1 w2 : World} {c : Nat} (h : ScTo w s mb p n cap K zs c w1) (k : Below w1.heap.size w1 w2) : ScTo w s mb p n cap K zs c w2 := ⟨h.1.bel k, h.2.below k⟩
theorem ScTo.refl (h : ScSt w s mb p n cap K zs a) : ScTo w s mb p n cap K zs a w := ⟨.refl _ _ _ _, h⟩
theorem ScSt.moved (h : ScSt w s mb p n cap K zs a) (d : Nat) (hd : a + d ≤ n) (x : Int) (hx : x = (K : Int) - (a : Int) - (d : Int)) (y : Int) (hy : y = (a : Int) + (d : Int)) :
    ScTo w s mb p n cap K zs (a + d) ((w.setCell ⟨mb, 0, none⟩ (.int .i64 x)).setCell ⟨s, 1, none⟩ (.int .i64 y)) := by
  subst hx hy
  have he : Exw s mb w.heap.size w ((w.setCell ⟨mb, 0, none⟩ (.int .i64 ((K : Int) - (a : Int) - (d : Int)))).setCell ⟨s, 1, none⟩ (.int .i64 ((a : Int) + (d : Int)))) :=
    ((Exw.refl s mb _ w).setCell (p := ⟨mb, 0, none⟩) (.inr (.inl rfl)) _).setCell (p := ⟨s, 1, none⟩) (.inl rfl) _
  refine ⟨he, ?_, ?_, h.by_.exw he h.np, h.len, h.cap_, h.ne, h.np, hd, h.low, h.high⟩
  · rw [blk_set (blk_set_ne h.blk (fun e => h.ne e.symm) _) 1 _]
    simp
  · rw [blk_set_ne (blk_set h.met 0 _) h.ne _]
    simp
    omega
end
theorem take_any (s mb : Nat) (p : Option Addr) (n cap K : Nat) (zs : List Int) (a d : Nat) (w : World) (h : ScSt w s mb p n cap K zs a) (hd : a + d ≤ n) :
    Calls Tryd.prog 39 #[.pointer (some ⟨s, 0, none⟩), .int .i64 (d : Nat)] w fun e w' => e = .returned (.bool true) ∧ ScTo w s mb p n cap K zs (a + d) w' := by
  obtain ⟨hs, c0, c1, c2, f0, f1, f2⟩ := blk3 h.blk
  obtain ⟨hm, m0, m1, g0, g1⟩ := blk2 h.met
  have hlow := h.low
  have hhigh := h.high
  have hne := h.ne
  have hne' : mb ≠ s := fun e => hne e.symm
  have T := Lib.hid (take_yes mb ((K : Int) - (a : Int)) (d : Nat) w ⟨m0, m1, g0, g1⟩ (by omega) (by omega) (by omega))
  have H := Lib.hid h
  have k1 : (w.setCell ⟨mb, 0, none⟩ (.int .i64 ((K : Int) - (a : Int) - (d : Int)))).cell? ⟨s, 1, none⟩ = some (.int .i64 (a : Nat)) := by
    rw [blk_cell (blk_set_ne h.blk (p := ⟨mb, 0, none⟩) hne' _) 1]; rfl
  have k2 : (w.setCell ⟨mb, 0, none⟩ (.int .i64 ((K : Int) - (a : Int) - (d : Int)))).frozen? ⟨s, 1, none⟩ = false :=
    blk_frozen (blk_set_ne h.blk (p := ⟨mb, 0, none⟩) hne' _) 1
  clear h m0 m1 g0 g1 hm
  go_enter Tryd.func39, Tryd.ntmps39
  go_wp2_with fail
  refine T.out.mono ?_
  rintro e w1 ⟨rfl, rfl⟩
  go_wp2
  go_ret
  exact ⟨rfl, H.out.moved d hd _ rfl _ rfl⟩
theorem sc_stands (s mb : Nat) (p : Option Addr) (n cap K : Nat) (zs : List Int) (a : Nat) (c : Int) (w : World) (h : ScSt w s mb p n cap K zs a) :
    Calls Tryd.prog 44 #[.pointer (some ⟨s, 0, none⟩), .int .u8 c] w fun e w' => e = .returned (.bool (stA zs (isC c) a)) ∧ Below w.heap.size w w' := by
  obtain ⟨hs, c0, c1, c2, f0, f1, f2⟩ := blk3 h.blk
  have hcap := h.cap_
  have hhigh := h.high
  have hlow := h.low
  by_cases hi : a < n
  · obtain ⟨hbd, hp⟩ := h.by_
    have hlen := h.len
    obtain ⟨b, off, rfl, hlt, hc⟩ := hp (by rintro rfl; simp at hlen; omega)
    have hci := hc a (by omega)
    rw [stA_of (by omega)]
    unfold isC
    generalize zs.getD a 0 = z at hci ⊢
    have t : decide ((a : Int) < (n : Int)) = true := by simp; exact hi
    have e1 : (z == c) = decide (z = c) := by rw [Bool.eq_iff_iff]; simp
    rw [← e1]
    clear e1 hc hp hbd hlen h
    generalize hr : (z == c) = r
    go_enter Tryd.func44, Tryd.ntmps44
    go_wp2
    go_quiet (fail)
    go_wp2
    go_ret
    exact ⟨ret_bool (by first | rfl | exact hr), bel_drewN (Below.refl _ _) _⟩
  · rw [stA_ge (by rw [h.len]; omega)]
    have t : decide ((a : Int) < (n : Int)) = false := by simp; omega
    clear h
    go_enter Tryd.func44, Tryd.ntmps44
    go_wp2
    go_region
    go_wp2
    go_ret
    exact ⟨rfl, (Below.refl _ _).drew⟩
theorem taken_any (s mb : Nat) (p : Option Addr) (n cap K : Nat) (zs : List Int) (a : Nat) (c : Int) (w : World) (h : ScSt w s mb p n cap K zs a) :
    Calls Tryd.prog 32 #[.pointer (some ⟨s, 0, none⟩), .int .u8 c] w fun e w' => e = .returned (.bool (stA zs (isC c) a)) ∧ ScTo w s mb p n cap K zs (if stA zs (isC c) a = true then a + 1 else a) w' := by
  have S1 := Lib.hid (sc_stands s mb p n cap K zs a c w h)
  have H := Lib.hid h
  have hl : stA zs (isC c) a = true → a + 1 ≤ n := fun h' => by have := stA_lt h'; have := h.len; omega
  clear h
  generalize stA zs (isC c) a = r at S1 hl ⊢
  cases r
  · rw [if_neg (by decide)]
    go_enter Tryd.func32, Tryd.ntmps32
    go_wp2_with fail
    refine S1.out.mono ?_
    rintro e w1 ⟨rfl, hb1⟩
    go_wp2
    go_ret
    exact ⟨rfl, (ScTo.refl H.out).bel hb1⟩
  · rw [if_pos rfl]
    have hl' := hl rfl
    clear hl
    go_enter Tryd.func32, Tryd.ntmps32
    go_wp2_with fail
    refine S1.out.mono ?_
    rintro e w1 ⟨rfl, hb1⟩
    have HB := Lib.hid hb1
    clear hb1
    go_wp2_with fail
    refine (take_any s mb p n cap K zs a 1 _ (H.out.below HB.out) hl').mono ?_
    rintro e w2 ⟨rfl, h2⟩
    have H2 := Lib.hid h2
    clear h2
    go_wp2
    go_ret
    exact ⟨rfl, ScTo.after HB.out H2.out⟩
theorem sblank1 (c : Int) (w : World) : Calls Tryd.prog 43 #[.int .u8 c] w fun e w' => e = .returned (.bool (isBlank c)) ∧ Below w.heap.size w w' := by
  by_cases h1 : c = 32
  · subst h1
    go_enter Tryd.func43, Tryd.ntmps43
    go_wp2
    go_ret
    exact ⟨rfl, Below.refl _ _⟩
  by_cases h2 : c = 9
  · subst h2
    go_enter Tryd.func43, Tryd.ntmps43
    go_wp2
    go_ret
    exact ⟨rfl, Below.refl _ _⟩
  by_cases h3 : c = 10
  · subst h3
    go_enter Tryd.func43, Tryd.ntmps43
    go_wp2
    go_ret
    exact ⟨rfl, Below.refl _ _⟩
  by_cases h4 : c = 13
  · subst h4
    go_enter Tryd.func43, Tryd.ntmps43
    go_wp2
    go_ret
    exact ⟨rfl, Below.refl _ _⟩
  rw [show isBlank c = false by unfold isBlank; rw [decide_eq_false_iff_not]; omega]
  have t1 : (c == 32) = false := by simpa using h1
  have t2 : (c == 9) = false := by simpa using h2
  have t3 : (c == 10) = false := by simpa using h3
  have t4 : (c == 13) = false := by simpa using h4
  clear h1 h2 h3 h4
  go_enter Tryd.func43, Tryd.ntmps43
  go_wp2
  go_ret
  exact ⟨rfl, Below.refl _ _⟩
theorem sdigit1 (c : Int) (w : World) : Calls Tryd.prog 41 #[.int .u8 c] w fun e w' => e = .returned (.bool (isDig c)) ∧ Below w.heap.size w w' := by
  by_cases h1 : 48 ≤ c
  · by_cases h2 : c ≤ 57
    · rw [show isDig c = true by unfold isDig; rw [decide_eq_true_iff]; omega]
      go_enter Tryd.func41, Tryd.ntmps41
      go_wp2
      go_ret
      exact ⟨rfl, Below.refl _ _⟩
    · rw [show isDig c = false by unfold isDig; rw [decide_eq_false_iff_not]; omega]
      go_enter Tryd.func41, Tryd.ntmps41
      go_wp2
      go_ret
      exact ⟨rfl, Below.refl _ _⟩
  · rw [show isDig c = false by unfold isDig; rw [decide_eq_false_iff_not]; omega]
    go_enter Tryd.func41, Tryd.ntmps41
    go_wp2
    go_ret
    exact ⟨rfl, Below.refl _ _⟩
theorem kind_blank (w : World) : IsKind w 43 #[] isBlank :=
  ⟨enters_of Tryd.func43 (by kernel_rfl) rfl, fun W c _ _ _ => sblank1 c W⟩
theorem kind_digit (w : World) : IsKind w 41 #[] isDig :=
  ⟨enters_of Tryd.func41 (by kernel_rfl) rfl, fun W c _ _ _ => sdigit1 c W⟩
theorem pass_any (s mb : Nat) (p : Option Addr) (n cap K : Nat) (zs : List Int) (a : Nat) (g : Nat) (k : Int → Bool) (w : World) (h : ScSt w s mb p n cap K zs a) (hk : IsKind w g #[] k) :
    Calls Tryd.prog 42 #[.pointer (some ⟨s, 0, none⟩), .func (.func g) #[] #[]] w fun e w' => e = .returned (.bool true) ∧ ScTo w s mb p n cap K zs (runTo zs k a) w' := by
  have H := Lib.hid h
  have HK := Lib.hid hk
  have hle := h.le
  have hcap := h.cap_
  have hhigh := h.high
  have hlow := h.low
  have en := hk.enters
  have c1 := (blk3 h.blk).2.2.1
  clear h hk
  go_enter Tryd.func42, Tryd.ntmps42
  go_wp2
  go_loopw [5] (fun i' wr => Below w.heap.size w wr ∧ ∃ j : Nat, a ≤ j ∧ j ≤ n ∧ i' = .int .i64 j ∧ runTo zs k a = runTo zs k j) (fun i' _ => n - (intOf i').toNat)
  case atStart => exact ⟨Below.refl _ _, a, Nat.le_refl _, hle, rfl, rfl⟩
  case round =>
    obtain ⟨hb, j, haj, hj, rfl, hr⟩ := hrel
    have HB := Lib.hid hb
    have HR := Lib.hid hr
    obtain ⟨hs, d0, d1, d2, f0, f1, f2⟩ := blk3 (H.out.below hb).blk
    have HY := Lib.hid (H.out.below hb).by_
    clear hb hr c1 hle
    by_cases hi : j < n
    · have t : decide ((j : Int) < (n : Int)) = true := by simp; exact hi
      obtain ⟨hbd, hp⟩ := HY.out
      have hlen := Lib.hid H.out.len
      obtain ⟨b, off, rfl, hlt, hc⟩ := hp (by intro e; have := hlen.out; rw [e] at this; simp at this; omega)
      have hci := hc j (by rw [hlen.out]; omega)
      have hz := hbd j
      have E := Lib.hid (stA_of (p := k) (show j < zs.length by rw [hlen.out]; exact hi))
      generalize zs.getD j 0 = z at hci hz E
      have G := Lib.hid (HK.out.gives _ z hz.1 hz.2 HB.out)
      clear hc hp hbd HY
      cases hkz : k z
      · rw [hkz] at E G
        have E2 := Lib.hid (runTo_stop E.out)
        clear hkz hz
        go_wp2_with fail
        refine G.out.mono ?_
        rintro e w1 ⟨rfl, hb1⟩
        have HB1 := Lib.hid (HB.out.trans (hb1.mono HB.out.size))
        obtain ⟨_, g0, g1, g2, _, _, _⟩ := blk3 (H.out.below HB1.out).blk
        clear hb1
        have e3 : ((j : Int) - (a : Int)) = ((j - a : Nat) : Int) := by omega
        go_wp2_with fail
        refine (take_any s mb _ n cap K zs a (j - a) _ (H.out.below HB1.out) (by omega)).mono ?_
        rintro e w2 ⟨rfl, h2⟩
        have H2 := Lib.hid h2
        clear h2
        go_wp2
        go_ret
        refine ⟨rfl, ?_⟩
        rw [HR.out, E2.out, show j = a + (j - a) by omega]
        exact ScTo.after HB1.out H2.out
      · rw [hkz] at E G
        have E2 := Lib.hid (runTo_step E.out)
        clear hkz hz
        go_wp2_with fail
        refine G.out.mono ?_
        rintro e w1 ⟨rfl, hb1⟩
        have HB1 := Lib.hid (HB.out.trans (hb1.mono HB.out.size))
        clear hb1
        go_wp2
        go_roundw
        case rel => exact ⟨HB1.out, j + 1, by omega, by omega, by go_num, by rw [HR.out, E2.out]⟩
        case measure => simp [intOf]; omega
    · have t : decide ((j : Int) < (n : Int)) = false := by simp; omega
      obtain rfl : n = j := by omega
      have E2 := Lib.hid (runTo_stop (stA_ge (zs := zs) (p := k) (show zs.length ≤ n by rw [H.out.len]; omega)))
      have e3 : ((n : Int) - (a : Int)) = ((n - a : Nat) : Int) := by omega
      go_wp2_with fail
      refine (take_any s mb _ n cap K zs a (n - a) _ (H.out.below HB.out) (by omega)).mono ?_
      rintro e w2 ⟨rfl, h2⟩
      have H2 := Lib.hid h2
      clear h2
      go_wp2
      go_ret
      refine ⟨rfl, ?_⟩
      rw [HR.out, E2.out]
      have H3 := H2.out
      rw [show a + (n - a) = n by omega] at H3
      exact ScTo.after HB.out H3
theorem sc_blank (s mb : Nat) (p : Option Addr) (n cap K : Nat) (zs : List Int) (a : Nat) (w : World) (h : ScSt w s mb p n cap K zs a) :
    Calls Tryd.prog 27 #[.pointer (some ⟨s, 0, none⟩)] w fun e w' => e = .returned (.tuple #[]) ∧ ScTo w s mb p n cap K zs (runTo zs isBlank a) w' := by
  have H := Lib.hid h
  clear h
  go_enter Tryd.func27, Tryd.ntmps27
  go_wp2_with fail
  refine (pass_any s mb p n cap K zs a _ isBlank _ H.out (kind_blank _)).mono ?_
  rintro e w1 ⟨rfl, h1⟩
  have H1 := Lib.hid h1
  clear h1
  go_wp2
  first | refine bodyPost_end (v := .tuple #[]) (by simp [results, Tryd.results27, go_sem]) rfl ?_ | refine bodyPost_ret (v := .tuple #[]) (by simp [results, Tryd.results27, go_sem]) rfl ?_
  exact ⟨rfl, H1.out⟩
theorem sign_any (s mb : Nat) (p : Option Addr) (n cap K : Nat) (zs : List Int) (a : Nat) (c : Int) (w : World) (h : ScSt w s mb p n cap K zs a) :
    Calls Tryd.prog 16 #[.pointer (some ⟨s, 0, none⟩), .int .u8 c] w fun e w' => e = .returned (.bool (stA zs (isC c) (runTo zs isBlank a))) ∧
      ScTo w s mb p n cap K zs (if stA zs (isC c) (runTo zs isBlank a) = true then runTo zs isBlank a + 1 else runTo zs isBlank a) w' := by
  have H := Lib.hid h
  clear h
  have S1 := Lib.hid (sc_blank s mb p n cap K zs a w H.out)
  generalize runTo zs isBlank a = b at S1 ⊢
  have S2 := Lib.hid (fun W h => taken_any s mb p n cap K zs b c W h)
  generalize (if stA zs (isC c) b = true then b + 1 else b) = b2 at S2 ⊢
  generalize stA zs (isC c) b = r at S2 ⊢
  go_enter Tryd.func16, Tryd.ntmps16
  go_wp2_with fail
  refine S1.out.mono ?_
  rintro e w1 ⟨rfl, h1⟩
  have H1 := Lib.hid h1
  clear h1
  go_wp2_with fail
  refine (S2.out _ H1.out.2).mono ?_
  rintro e w2 ⟨rfl, h2⟩
  have H2 := Lib.hid h2
  clear h2
  go_wp2
  go_ret
  exact ⟨rfl, H1.out.then H2.out⟩
theorem sc_end (s mb : Nat) (p : Option Addr) (n cap K : Nat) (zs : List Int) (a : Nat) (w : World) (h : ScSt w s mb p n cap K zs a) :
    Calls Tryd.prog 21 #[.pointer (some ⟨s, 0, none⟩)] w fun e w' => e = .returned (.bool (decide (runTo zs isBlank a = zs.length))) ∧ ScTo w s mb p n cap K zs (runTo zs isBlank a) w' := by
  have H := Lib.hid h
  have hlen := h.len
  clear h
  have S1 := Lib.hid (sc_blank s mb p n cap K zs a w H.out)
  rw [hlen]
  clear hlen
  generalize runTo zs isBlank a = b at S1 ⊢
  have e1 : ((b : Int) == (n : Int)) = decide (b = n) := by rw [Bool.eq_iff_iff, beq_iff_eq, decide_eq_true_iff]; omega
  rw [← e1]
  clear e1
  generalize hr : ((b : Int) == (n : Int)) = r
  go_enter Tryd.func21, Tryd.ntmps21
  go_wp2_with fail
  refine S1.out.mono ?_
  rintro e w1 ⟨rfl, h1⟩
  have H1 := Lib.hid h1
  obtain ⟨hs, c0, c1, c2, f0, f1, f2⟩ := blk3 h1.2.blk
  clear h1
  go_wp2
  go_quiet (fail)
  go_wp2
  go_ret
  exact ⟨ret_bool (by first | rfl | exact hr), H1.out.bel (bel_drewN (Below.refl _ _) _)⟩
theorem sc_at (s mb : Nat) (p : Option Addr) (n cap K : Nat) (zs : List Int) (a : Nat) (w : World) (h : ScSt w s mb p n cap K zs a) :
    Calls Tryd.prog 13 #[.pointer (some ⟨s, 0, none⟩)] w fun e w' => e = .returned (.int .i64 (a : Nat)) ∧ w = w' := by
  obtain ⟨hs, c0, c1, c2, f0, f1, f2⟩ := blk3 h.blk
  clear h
  go_enter Tryd.func13, Tryd.ntmps13
  go_wp2
  go_ret
  exact ⟨rfl, rfl⟩
end Go.Proofs.YtneadcbadnicfaaDoor
