/-
  The scanner's sign: the sign that stands at its place between quotes. Condition: the library's tables hold what the row lists.
-/
import Derived.Test.YtneadcbadnicfaaDoorSnF
namespace Go.Proofs.YtneadcbadnicfaaDoor
open Go.ChangeShapes Go.WideShapes Go.ChangeAt Go.RowKit Go.Shelf

/-- Of no bytes, wherever they lie. -/
theorem decslow_empty (a : Option Addr) (c : Nat) (w : World) : Calls Tryd.prog 62 #[.slice a 0 c] w fun e w' => e = .returned (.tuple #[.int .i32 65533, .int .i64 0]) ∧ Below w.heap.size w w' := by
  go_enter Tryd.func62, Tryd.ntmps62
  go_wp2
  go_ret2
  exact ⟨rfl, Below.refl _ _⟩
theorem dec_empty (a : Option Addr) (c : Nat) (w : World) : Calls Tryd.prog 49 #[.slice a 0 c] w fun e w' => e = .returned (.tuple #[.int .i32 65533, .int .i64 0]) ∧ Below w.heap.size w w' := by
  have D := Lib.hid (fun W => decslow_empty a c W)
  go_enter Tryd.func49, Tryd.ntmps49
  go_wp2
  go_loopw [8] (fun i wr => i = .int .i64 0 ∧ Below w.heap.size w wr) (fun _ _ => 0)
  case atStart => exact ⟨rfl, Below.refl _ _⟩
  case round =>
    obtain ⟨rfl, hb⟩ := hrel
    have HB := Lib.hid hb
    clear hb
    go_wp2_with fail
    refine (D.out _).mono ?_
    rintro e w1 ⟨rfl, hb1⟩
    have HB1 := Lib.hid (HB.out.trans (hb1.mono HB.out.size))
    clear hb1
    go_wp2
    go_ret2
    exact ⟨rfl, HB1.out⟩
theorem dec_place (p : Option Addr) (n cap : Nat) (zs : List Int) (a : Nat) (w : World) (hT : Tabs w) (hz : Bytes w p zs) (hn : zs.length = n) (ha : a ≤ n) (q : Option Addr) (hq : a < n → ∀ b off, p = some ⟨b, off, none⟩ → q = some ⟨b, off + a, none⟩) :
    Calls Tryd.prog 49 #[.slice q (n - a) cap] w fun e w' => e = .returned (.tuple #[.int .i32 (dec (zs.drop a)).1, .int .i64 (dec (zs.drop a)).2]) ∧ Below w.heap.size w w' := by
  by_cases hi : a < n
  · obtain ⟨hbd, hp⟩ := hz
    obtain ⟨b, off, rfl, hlt, hc⟩ := hp (by rintro rfl; simp at hn; omega)
    rw [hq hi b off rfl, ← hn]
    exact dec_at zs a b off cap w hT hc hbd
  · rw [show n - a = 0 by omega, dec_nil_len (zs.drop a) (by simp; omega)]
    exact dec_empty q cap w
/-! sgn -/
theorem Tabs.exw {w w' : World} {R S : Nat} (h : Tabs w) (hb : Exw R S w.heap.size w w') (hn : (0 ≠ R ∧ 0 ≠ S) ∧ (1 ≠ R ∧ 1 ≠ S)) : Tabs w' := by
  refine ⟨fun c hc => ?_, fun i hi => ⟨?_, ?_⟩⟩
  · exact cell_exw hb (h.1 c hc) hn.1.1 hn.1.2
  · exact cell_exw hb (h.2 i hi).1 hn.2.1 hn.2.2
  · exact cell_exw hb (h.2 i hi).2 hn.2.1 hn.2.2
def NotTabs (s mb : Nat) : Prop := (0 ≠ s ∧ 0 ≠ mb) ∧ (1 ≠ s ∧ 1 ≠ mb)
set_option maxHeartbeats 1600000 in
theorem sgn_any (s mb : Nat) (p : Option Addr) (n cap K : Nat) (zs : List Int) (a : Nat) (w : World) (hT : Tabs w) (hN : NotTabs s mb) (h : ScSt w s mb p n cap K zs a) :
    Calls Tryd.prog 33 #[.pointer (some ⟨s, 0, none⟩)] w fun e w' => SgnPost w s mb p n cap K zs (sgnAt zs a) e w' := by
  have T1 := Lib.hid (taken_any s mb p n cap K zs a 92 w h)
  obtain ⟨o, ho⟩ : ∃ o, sgnAt zs a = o := ⟨_, rfl⟩
  rw [ho]
  unfold sgnAt at ho
  have HT := Lib.hid hT
  have HN := Lib.hid hN
  clear hT hN
  cases t1 : stA zs (isC 92) a
  · have T1' : Hid (Calls Tryd.prog 32 #[.pointer (some ⟨s, 0, none⟩), .int .u8 92] w fun e w' => e = .returned (.bool false) ∧ ScTo w s mb p n cap K zs a w') := by rw [t1] at T1; exact T1
    rw [if_neg (by rw [t1]; decide)] at ho
    have hcap := h.cap_
    have hhigh := h.high
    have hlow := h.low
    have hlen := h.len
    have hle := h.le
    have HO := Lib.hid ho
    clear T1 t1 ho
    have hk : 0 ≤ (dec (zs.drop a)).2 ∧ a + (dec (zs.drop a)).2 ≤ n := by
      by_cases hl : 0 < (zs.drop a).length
      · have hw := dec_width (zs.drop a) hl
        have : (zs.drop a).length = zs.length - a := List.length_drop ..
        omega
      · rw [dec_nil_len _ (by omega)]
        exact ⟨by decide, by simp; omega⟩
    have hr : 0 ≤ (dec (zs.drop a)).1 := by
      obtain ⟨r', h1, h2⟩ := dec_rune (zs.drop a) (fun i => by have := h.by_.1 (a + i); simpa [List.getD] using this)
      omega
    by_cases hi : a < n
    · skip
      obtain ⟨b, off, rfl, hlt, hc⟩ := h.by_.2 (by rintro rfl; simp at hlen; omega)
      have DP := Lib.hid (fun W hT hz => dec_place (some ⟨b, off, none⟩) n (cap - a) zs a W hT hz hlen h.le (some ⟨b, off + a, none⟩) (fun _ b' off' e => by injection e with e; injection e with e1 e2 _; subst e1 e2; rfl))
      have hca : ¬ cap = a := by omega
      clear hc hlt
      generalize (dec (zs.drop a)).2 = kk at DP HO hk
      generalize (dec (zs.drop a)).1 = R at DP HO hr
      go_enter Tryd.func33, Tryd.ntmps33
      go_wp2_with fail
      refine T1'.out.mono ?_
      rintro e w1 ⟨rfl, h1⟩
      have H1 := Lib.hid h1
      obtain ⟨hs, c0, c1, c2, f0, f1, f2⟩ := blk3 h1.2.blk
      have HT1 := Lib.hid ((HT.out.exw h1.1 HN.out).below (Nat.le_refl _) (Below.refl _ w1).drew)
      have HY1 := Lib.hid (h1.2.by_.below (Nat.le_refl _) (Below.refl _ w1).drew)
      clear h1 h
      go_wp2
      go_region_law (first | (go_simp; go_at_call 49; (with_reducible refine (DP.out w1.drew HT1.out HY1.out).mono ?_); rintro e Wc ⟨rfl, hbc⟩))
      all_goals
        have HC := Lib.hid (H1.out.bel (w2 := Wc) ((Below.refl w1.heap.size w1).drew.trans (hbc.mono (Nat.le_refl _))))
        clear hs c0 c1 c2 f0 f1 f2 hbc
        simp only [Exit.then]
        obtain ⟨hk0, hk1⟩ := hk
        by_cases x1 : R = 65533
        · by_cases x2 : kk < 2
          · have hO : o = none := by rw [← HO.out, if_pos ⟨x1, x2⟩]
            have HO2 := Lib.hid hO
            subst x1
            clear hO hr hk1
            go_wp2
            go_ret2
            exact .no HO2.out HC.out
          · have hO : o = some (R.toNat, a + kk.toNat) := by rw [← HO.out, if_neg (fun h => x2 h.2), if_neg (by omega)]
            have HO2 := Lib.hid hO
            subst x1
            obtain ⟨d, rfl⟩ := Int.eq_ofNat_of_zero_le hk0
            have hkn : a + d ≤ n := by omega
            clear hO hr hk1 hk0
            go_wp2_with fail
            refine (take_any s mb _ n cap K zs a d _ HC.out.2 hkn).mono ?_
            rintro e w3 ⟨rfl, h3⟩
            have H3 := Lib.hid h3
            clear h3
            go_wp2
            go_ret2
            exact .yes HO2.out rfl (HC.out.then H3.out)
        · have t1 : (R == 65533) = false := by simpa using x1
          by_cases x2 : R < 32
          · have hO : o = none := by rw [← HO.out, if_neg (fun h => x1 h.1), if_pos x2]
            have HO2 := Lib.hid hO
            clear hO hr hk1 x1
            go_wp2
            go_ret2
            exact .no HO2.out HC.out
          · have hO : o = some (R.toNat, a + kk.toNat) := by rw [← HO.out, if_neg (fun h => x1 h.1), if_neg x2]
            have HO2 := Lib.hid hO
            have HRR := Lib.hid (show R = ((R.toNat : Nat) : Int) by omega)
            obtain ⟨d, rfl⟩ := Int.eq_ofNat_of_zero_le hk0
            have hkn : a + d ≤ n := by omega
            clear hO hr hk1 hk0 x1
            go_wp2_with fail
            refine (take_any s mb _ n cap K zs a d _ HC.out.2 hkn).mono ?_
            rintro e w3 ⟨rfl, h3⟩
            have H3 := Lib.hid h3
            clear h3
            go_wp2
            go_ret2
            exact .yes HO2.out HRR.out (HC.out.then H3.out)
    · have DP : Hid (∀ W q c, Calls Tryd.prog 49 #[.slice q 0 c] W fun e w' => e = .returned (.tuple #[.int .i32 65533, .int .i64 0]) ∧ Below W.heap.size W w') := fun W q c => dec_empty q c W
      have HO2 : Hid (o = none) := by
        have ho := HO.out
        rw [dec_nil_len (zs.drop a) (by simp; omega), if_pos ⟨rfl, by decide⟩] at ho
        exact ho.symm
      obtain rfl : n = a := by omega
      rcases p with _ | ⟨b, off, x⟩
      · have z0 : n = 0 := by
          rcases Nat.eq_zero_or_pos n with h0 | h0
          · exact h0
          · obtain ⟨b, off, e, _⟩ := h.by_.2 (by rintro rfl; simp at hlen; omega)
            cases e
        subst z0
        go_enter Tryd.func33, Tryd.ntmps33
        go_wp2_with fail
        refine T1'.out.mono ?_
        rintro e w1 ⟨rfl, h1⟩
        have H1 := Lib.hid h1
        obtain ⟨hs, c0, c1, c2, f0, f1, f2⟩ := blk3 h1.2.blk
        clear h1 h hk hr
        go_wp2
        go_region_law (first | (go_simp; go_at_call 49; (with_reducible refine (DP.out w1.drew _ _).mono ?_); rintro e Wc ⟨rfl, hbc⟩))
        all_goals
          have HC := Lib.hid (H1.out.bel (w2 := Wc) ((Below.refl w1.heap.size w1).drew.trans (hbc.mono (Nat.le_refl _))))
          clear hs c0 c1 c2 f0 f1 f2 hbc
          simp only [Exit.then]
          go_wp2
          go_ret2
          exact .no HO2.out HC.out
      · by_cases hcn : cap = n
        · subst hcn
          go_enter Tryd.func33, Tryd.ntmps33
          go_wp2_with fail
          refine T1'.out.mono ?_
          rintro e w1 ⟨rfl, h1⟩
          have H1 := Lib.hid h1
          obtain ⟨hs, c0, c1, c2, f0, f1, f2⟩ := blk3 h1.2.blk
          clear h1 h hk hr
          go_wp2
          go_region_law (first | (go_simp; go_at_call 49; (with_reducible refine (DP.out w1.drew _ _).mono ?_); rintro e Wc ⟨rfl, hbc⟩))
          all_goals
            have HC := Lib.hid (H1.out.bel (w2 := Wc) ((Below.refl w1.heap.size w1).drew.trans (hbc.mono (Nat.le_refl _))))
            clear hs c0 c1 c2 f0 f1 f2 hbc
            simp only [Exit.then]
            go_wp2
            go_ret2
            exact .no HO2.out HC.out
        · skip
          go_enter Tryd.func33, Tryd.ntmps33
          go_wp2_with fail
          refine T1'.out.mono ?_
          rintro e w1 ⟨rfl, h1⟩
          have H1 := Lib.hid h1
          obtain ⟨hs, c0, c1, c2, f0, f1, f2⟩ := blk3 h1.2.blk
          clear h1 h hk hr
          go_wp2
          go_region_law (first | (go_simp; go_at_call 49; (with_reducible refine (DP.out w1.drew _ _).mono ?_); rintro e Wc ⟨rfl, hbc⟩))
          all_goals
            have HC := Lib.hid (H1.out.bel (w2 := Wc) ((Below.refl w1.heap.size w1).drew.trans (hbc.mono (Nat.le_refl _))))
            clear hs c0 c1 c2 f0 f1 f2 hbc
            simp only [Exit.then]
            go_wp2
            go_ret2
            exact .no HO2.out HC.out
  · have T1' : Hid (Calls Tryd.prog 32 #[.pointer (some ⟨s, 0, none⟩), .int .u8 92] w fun e w' => e = .returned (.bool true) ∧ ScTo w s mb p n cap K zs (a + 1) w') := by rw [t1] at T1; exact T1
    rw [if_pos t1] at ho
    clear T1 t1 h
    have U1 := Lib.hid (fun W h => esc_any s mb p n cap K zs (a + 1) W h)
    rw [ho] at U1
    clear ho
    go_enter Tryd.func33, Tryd.ntmps33
    go_wp2_with fail
    refine T1'.out.mono ?_
    rintro e w1 ⟨rfl, h1⟩
    have H1 := Lib.hid h1
    clear h1
    go_wp2_with fail
    refine (U1.out _ H1.out.2).mono ?_
    rintro e w2 (⟨r, b, h1, rfl, h3⟩ | ⟨h1, x, a', rfl, h3⟩)
    · have H2 := Lib.hid h3
      have HO := Lib.hid h1
      clear h1 h3
      go_wp2
      go_ret2
      exact .yes HO.out rfl (H1.out.then H2.out)
    · have H2 := Lib.hid h3
      have HO := Lib.hid h1
      clear h1 h3
      go_wp2
      go_ret2
      exact .no HO.out (H1.out.then H2.out)
end Go.Proofs.YtneadcbadnicfaaDoor
