/-
  The document's reader of JSON: Text. Condition: the library's tables hold what the row lists.
-/
import Derived.Test.YtneadcbadnicfaaDoorSrF
import Derived.Test.YtneadcbadnicfaaDoorSnO
import Derived.Test.YtneadcbadnicfaaDoorUtf8R
import Derived.Test.YtneadcbadnicfaaDoorSuP
namespace Go.Proofs.YtneadcbadnicfaaDoor
open Go.ChangeShapes Go.WideShapes Go.ChangeAt Go.RowKit Go.Shelf

/-- The document's text in quotes, from a place between the quotes on, behind what was read. -/
def rtxF (zs : List Int) : Nat → Nat → List Int → Option (List Int × Nat)
  | 0, _, _ => none
  | f + 1, a, T =>
    if hereZ zs a < 32 then none
    else if hereZ zs a = 34 then (if okT T = true then some (T, a + 1) else none)
    else if hereZ zs a = 92 then (match escAt zs (a + 1) with | none => none | some (r, b) => rtxF zs f b (T ++ enc r))
    else rtxF zs f (a + 1) (T ++ [hereZ zs a])
theorem here_lt {zs : List Int} {a : Nat} (h : ¬ hereZ zs a < 32) : a < zs.length := (here_ne (by omega)).1
theorem rtxF_fuel (zs : List Int) : ∀ (f g a : Nat) (T : List Int), zs.length < f + a → zs.length < g + a → rtxF zs f a T = rtxF zs g a T
  | 0, 0, _, _, _, _ => rfl
  | 0, g + 1, a, T, hf, _ => by
    simp only [rtxF]
    by_cases h : hereZ zs a < 32
    · rw [if_pos h]
    · have := here_lt h; omega
  | f + 1, 0, a, T, _, hg => by
    simp only [rtxF]
    by_cases h : hereZ zs a < 32
    · rw [if_pos h]
    · have := here_lt h; omega
  | f + 1, g + 1, a, T, hf, hg => by
    simp only [rtxF]
    split
    · rfl
    split
    · rfl
    split
    · split
      · rfl
      · rename_i r b h
        have := (escAt_is h).2
        exact rtxF_fuel zs f g b _ (by omega) (by omega)
    · exact rtxF_fuel zs f g (a + 1) _ (by omega) (by omega)
def rtxGo (zs : List Int) (a : Nat) (T : List Int) : Option (List Int × Nat) := rtxF zs (zs.length + 1) a T
theorem rtxGo_low {zs : List Int} {a : Nat} {T : List Int} (h : hereZ zs a < 32) : rtxGo zs a T = none := by
  unfold rtxGo rtxF
  rw [if_pos h]
theorem rtxGo_end {zs : List Int} {a : Nat} {T : List Int} (h : hereZ zs a = 34) : rtxGo zs a T = if okT T = true then some (T, a + 1) else none := by
  unfold rtxGo rtxF
  rw [if_neg (by omega), if_pos h]
theorem rtxGo_raw {zs : List Int} {a : Nat} {T : List Int} (h : ¬ hereZ zs a < 32) (h1 : hereZ zs a ≠ 34) (h2 : hereZ zs a ≠ 92) : rtxGo zs a T = rtxGo zs (a + 1) (T ++ [hereZ zs a]) := by
  conv => lhs; unfold rtxGo rtxF
  rw [if_neg h, if_neg h1, if_neg h2]
  exact rtxF_fuel zs _ _ _ _ (by omega) (by omega)
theorem rtxGo_esc {zs : List Int} {a r b : Nat} {T : List Int} (h : hereZ zs a = 92) (h2 : escAt zs (a + 1) = some (r, b)) : rtxGo zs a T = rtxGo zs b (T ++ enc r) := by
  conv => lhs; unfold rtxGo rtxF
  rw [if_neg (by omega), if_neg (by omega), if_pos h, h2]
  have := (escAt_is h2).2
  exact rtxF_fuel zs _ _ _ _ (by omega) (by omega)
theorem rtxGo_bad {zs : List Int} {a : Nat} {T : List Int} (h : hereZ zs a = 92) (h2 : escAt zs (a + 1) = none) : rtxGo zs a T = none := by
  unfold rtxGo rtxF
  rw [if_neg (by omega), if_neg (by omega), if_pos h, h2]
def rtxAt (zs : List Int) (a : Nat) : Option (List Int × Nat) :=
  if stA zs (isC 34) (runTo zs isBlank a) = true then rtxGo zs (runTo zs isBlank a + 1) [] else none
theorem r1text_any (p : Option Addr) (c n : Nat) (T : List Int) (w : World) (hT : Tabs w) (hz : Bytes w p T) (hn : T.length = n) (hl : (n : Int) ≤ 9223372036854775800) (hc : n ≤ c) :
    Calls Tryd.prog 36 #[.slice p n c] w fun e w' => e = .returned (.bool (okT T)) ∧ Below w.heap.size w w' := by
  have H := Lib.hid (rutf8_gen p c n T w hT hz hn (by omega) hc)
  unfold okT
  generalize u8At T 0 = x at H ⊢
  clear hT hz hn hl hc
  by_cases h : x < 0
  · rw [decide_eq_true h]
    go_enter Tryd.func36, Tryd.ntmps36
    go_wp2_with fail
    refine H.out.mono ?_
    rintro e w1 ⟨rfl, hb⟩
    go_wp2
    go_ret
    exact ⟨rfl, hb⟩
  · rw [decide_eq_false h]
    go_enter Tryd.func36, Tryd.ntmps36
    go_wp2_with fail
    refine H.out.mono ?_
    rintro e w1 ⟨rfl, hb⟩
    go_wp2
    go_ret
    exact ⟨ret_bool (by first | rfl | (simp; omega)), hb⟩
/-- What the document's Text leaves. -/
def RTxtPost (w : World) (r : Nat) (x0 x1 x2 : Value) (p : Option Addr) (n cap : Nat) (zs : List Int) (bad : Value) (o : Option (List Int × Nat)) (e : Ending) (w' : World) : Prop :=
  (∃ T b v, o = some (T, b) ∧ e = .returned (.tuple #[v, .bool true]) ∧ w'.ownsRow w.heap.size 5 1 v T.length (T.map (Value.int .u8)) ∧ (∀ z ∈ T, 0 ≤ z ∧ z ≤ 255) ∧ T.length ≤ 4 * (n + 1) ∧ RdTo w r x0 x1 x2 p n cap zs bad b w') ∨
  (o = none ∧ ∃ v a', e = .returned (.tuple #[v, .bool false]) ∧ RdTo w r x0 x1 x2 p n cap zs bad a' w')
theorem own_exc {R B : Nat} {w w' : World} {e : TypeId} {v : Value} {n : Nat} {xs : List Value} (ho : w.ownsRow B e 1 v n xs) (hb : Exc R w.heap.size w w') (hR : R < B) : w'.ownsRow B e 1 v n xs := by
  refine hb.ownsRow ho ?_
  intro h; have := (ownsRow_lt ho _ h).1; omega
theorem grown_below' {w w' : World} {B : Nat} {e : TypeId} {v : Value} {n : Nat} {xs : List Value} (ho : w.ownsRow B e 1 v n xs) (hg : w.grownBy w' v.ownBlock) (hB : B ≤ w.heap.size) : Below B w w' :=
  ⟨hg.os, hg.tape, hg.output, hg.size, fun k hk => hg.block k (by omega) (fun h => by have := (ownsRow_lt ho k h.symm).1; omega)⟩
theorem RdSc.keep {w w' : World} {r : Nat} {x0 x1 x2 : Value} {p : Option Addr} {n cap : Nat} {zs : List Int} {bad : Value} {a B : Nat} (h : RdSc w r x0 x1 x2 p n cap zs bad a) (hb : Below B w w') (hr : r < B) (hp : zs ≠ [] → ∀ q, p = some q → q.block < B) : RdSc w' r x0 x1 x2 p n cap zs bad a := by
  refine ⟨blk_below h.blk hb hr, ⟨h.by_.1, fun hne => ?_⟩, h.len, h.cap_, h.np, h.le, h.high⟩
  obtain ⟨b, off, rfl, hlt, hc⟩ := h.by_.2 hne
  exact ⟨b, off, rfl, Nat.lt_of_lt_of_le hlt hb.size, fun i hi => (hb.cell (p := ⟨b, off + i, none⟩) (show b < B from hp hne ⟨b, off, none⟩ rfl)).trans (hc i hi)⟩
theorem Tabs.exc {w w' : World} {R : Nat} (h : Tabs w) (hb : Exc R w.heap.size w w') (hn : 0 ≠ R ∧ 1 ≠ R) : Tabs w' := by
  obtain ⟨s0, s1⟩ := h.sizes
  refine ⟨fun c hc => ?_, fun i hi => ⟨?_, ?_⟩⟩
  · exact (hb.cell (p := ⟨_, c, none⟩) s0 hn.1).trans (h.1 c hc)
  · exact (hb.cell (p := ⟨_, 2 * i, none⟩) s1 hn.2).trans (h.2 i hi).1
  · exact (hb.cell (p := ⟨_, 2 * i + 1, none⟩) s1 hn.2).trans (h.2 i hi).2
set_option maxHeartbeats 1600000 in
set_option maxRecDepth 20000 in
theorem rtext_any (r : Nat) (x0 x1 x2 : Value) (p : Option Addr) (n cap : Nat) (zs : List Int) (bad : Value) (a : Nat) (w : World) (hT : Tabs w) (hN : 0 ≠ r ∧ 1 ≠ r) (ha : a ≤ n) (h : RdSc w r x0 x1 x2 p n cap zs bad a) :
    Calls Tryd.prog 12 #[.pointer (some ⟨r, 0, none⟩)] w fun e w' => RTxtPost w r x0 x1 x2 p n cap zs bad (rtxAt zs a) e w' := by
  have S1 := Lib.hid (rsign_any r x0 x1 x2 p n cap zs bad a 34 (by decide) w h)
  obtain ⟨o, ho⟩ : ∃ o, rtxAt zs a = o := ⟨_, rfl⟩
  rw [ho]
  unfold rtxAt at ho
  have HT := Lib.hid hT
  have HN := Lib.hid hN
  have HS := Lib.hid (blk_lt h.blk)
  have HB := Lib.hid h.by_.1
  have hhigh := h.high
  have hlen := h.len
  have HQ : Hid (zs ≠ [] → ∀ q, p = some q → q.block < w.heap.size) := fun hne q hq => by
    obtain ⟨b, off, e, hlt, _⟩ := h.by_.2 hne
    rw [e] at hq
    cases hq
    exact hlt
  have hle := runTo_le zs isBlank a (by omega)
  clear hT hN h
  cases t1 : stA zs (isC 34) (runTo zs isBlank a)
  · rw [if_neg (by rw [t1]; decide)] at ho
    have HO := Lib.hid ho.symm
    rw [t1] at S1
    clear t1 ho
    go_enter Tryd.func12, Tryd.ntmps12
    go_wp2_with fail
    refine S1.out.mono ?_
    rintro e w1 ⟨rfl, h1⟩
    have H1 := Lib.hid h1
    clear h1
    go_wp2
    go_ret2
    exact .inr ⟨HO.out, _, _, rfl, H1.out⟩
  · rw [if_pos t1] at ho
    have hb0 : runTo zs isBlank a + 1 ≤ n := by have := stA_lt t1; omega
    have S1' : Hid (Calls Tryd.prog 17 #[.pointer (some ⟨r, 0, none⟩), .int .i64 34] w fun e w' => e = .returned (.bool true) ∧ RdTo w r x0 x1 x2 p n cap zs bad (runTo zs isBlank a + 1) w') := by rw [t1] at S1; exact S1
    generalize runTo zs isBlank a + 1 = a0 at ho S1' hb0
    have HO := Lib.hid ho.symm
    obtain ⟨i0, hi0, hzz0, hzz1, hzz2⟩ := info_parts u8_info
    have I1 := Lib.hid hi0
    have I2 := Lib.hid hzz0
    have I3 := Lib.hid hzz1
    have I4 := Lib.hid hzz2
    clear t1 ho S1 hle hi0 hzz0 hzz1 hzz2
    go_enter Tryd.func12, Tryd.ntmps12
    go_wp2_with fail
    refine S1'.out.mono ?_
    rintro e w1 ⟨rfl, h1⟩
    have H1 := Lib.hid h1
    clear h1
    go_wp2
    go_loopw [4] (fun v wr => ∃ (T : List Int) (b : Nat), b ≤ n ∧ o = rtxGo zs b T ∧ wr.ownsRow w.heap.size 5 1 v T.length (T.map (Value.int .u8)) ∧ (∀ z ∈ T, 0 ≤ z ∧ z ≤ 255) ∧ T.length ≤ 4 * b ∧ RdTo w r x0 x1 x2 p n cap zs bad b wr) (fun _ wr => n + 1 - atR wr r)
    case atStart => exact ⟨[], a0, hb0, HO.out, World.ownsRow_nil _ _ _ _, (fun z hz => by cases hz), by simp, H1.out⟩
    case round =>
      obtain ⟨T, b, hbn, ht, hown, hbd, hlT, hsc⟩ := hrel
      have HT1 := Lib.hid (HT.out.exc hsc.1 HN.out)
      have HX := Lib.hid hsc
      have HOW := Lib.hid hown
      have HTB := Lib.hid hbd
      have HLT := Lib.hid hlT
      have HHE := Lib.hid (here_any r x0 x1 x2 p n cap zs bad b _ hsc.2)
      have HZ : Hid (hereZ zs b ≤ 255) := by
        unfold Hid hereZ
        split
        · have := HB.out b; omega
        · omega
      clear hsc hown hbd hlT
      have HL := Lib.hid (@here_ne zs b)
      have HR := Lib.hid ht
      by_cases c1 : hereZ zs b < 32
      · have HO2 := Lib.hid (ht.trans (rtxGo_low c1))
        clear ht HL HR HZ
        generalize hereZ zs b = z at HHE c1
        go_wp2_with fail
        refine HHE.out.mono ?_
        rintro e w2 ⟨rfl, hb2⟩
        have H2 := Lib.hid (HX.out.bel hb2)
        obtain ⟨hr, c3, c4, f3, f4⟩ := rd6 H2.out.2
        clear hb2
        go_wp2
        go_ret2
        exact .inr ⟨HO2.out, _, _, rfl, H2.out.then (step1_any _ _ _ _ _ _ _ _ _ _ _ H2.out.2 hbn _ rfl)⟩
      have hbl : b < n := by have := (HL.out (by omega)).1; omega
      by_cases c2 : hereZ zs b = 34
      · have HO2 := Lib.hid (ht.trans (rtxGo_end c2))
        rw [c2] at HHE
        clear ht HL HR HZ c1 c2
        obtain ⟨pa, ca, rfl, hca, hya, hqa⟩ := own_bytes HOW.out HTB.out
        have HYA := Lib.hid hya
        have HQA := Lib.hid hqa
        clear hya hqa
        go_wp2_with fail
        refine HHE.out.mono ?_
        rintro e w2 ⟨rfl, hb2⟩
        have H2 := Lib.hid (HX.out.bel hb2)
        obtain ⟨hr, c3, c4, f3, f4⟩ := rd6 H2.out.2
        have HST := Lib.hid (step1_any _ _ _ _ _ _ _ _ _ _ _ H2.out.2 hbn ((b : Int) + 1) rfl)
        have HT2 := Lib.hid ((HT1.out.below (Nat.le_refl _) hb2).exc HST.out.1 HN.out)
        have HO3 := Lib.hid (own_exc (own_exc HOW.out (Exc.of_below hb2 : Exc r _ _ _) HS.out) HST.out.1 HS.out)
        have HYS := Lib.hid ((HYA.out.below (Nat.le_refl _) hb2).excR HST.out.1 (fun _ q hq => by have := (HQA.out q hq).1; have := HS.out; omega))
        clear hb2
        go_wp2_with fail
        refine (r1text_any pa ca T.length T _ HT2.out HYS.out rfl (by have := HLT.out; omega) hca).mono ?_
        rintro e w3 ⟨rfl, hb3⟩
        have H3 := Lib.hid ((H2.out.then HST.out).bel hb3)
        have HO4 := Lib.hid (own_exc HO3.out (Exc.of_below hb3 : Exc r _ _ _) HS.out)
        clear hb3 hr c3 c4 f3 f4
        cases hk : okT T
        · have HN2 : Hid (o = none) := by unfold Hid; rw [HO2.out, hk]; rfl
          go_wp2
          go_ret2
          exact .inr ⟨HN2.out, _, _, rfl, H3.out⟩
        · have HN2 : Hid (o = some (T, b + 1)) := by unfold Hid; rw [HO2.out, hk]; rfl
          go_wp2
          go_ret2
          exact .inl ⟨T, b + 1, _, HN2.out, rfl, HO4.out, HTB.out, by have := HLT.out; omega, H3.out⟩
      by_cases c3 : hereZ zs b = 92
      · rw [c3] at HHE
        have hb1n : b + 1 ≤ n := by omega
        have ES := Lib.hid (fun W h => resc_any r x0 x1 x2 p n cap zs bad (b + 1) W hb1n h)
        cases he : escAt zs (b + 1) with
        | none =>
          have HO2 := Lib.hid (ht.trans (rtxGo_bad c3 he))
          rw [he] at ES
          clear ht HL HR HZ c1 c2 c3 he
          go_wp2_with fail
          refine HHE.out.mono ?_
          rintro e w2 ⟨rfl, hb2⟩
          have H2 := Lib.hid (HX.out.bel hb2)
          obtain ⟨hr, c3, c4, f3, f4⟩ := rd6 H2.out.2
          have HST := Lib.hid (step1_any _ _ _ _ _ _ _ _ _ _ _ H2.out.2 hbn ((b : Int) + 1) rfl)
          clear hb2
          go_wp2_with fail
          refine (ES.out _ HST.out.2).mono ?_
          rintro e w3 (⟨rn, b', g, h1, _⟩ | ⟨_, rfl, a', h3⟩)
          · cases h1
          have H3 := Lib.hid ((H2.out.then HST.out).then h3)
          clear h3 hr c3 c4 f3 f4
          go_wp2
          go_ret2
          exact .inr ⟨HO2.out, _, _, rfl, H3.out⟩
        | some rb =>
          obtain ⟨rn, b2⟩ := rb
          have his := escAt_is he
          have HI := Lib.hid his
          have HO2 := Lib.hid (ht.trans (rtxGo_esc c3 he))
          rw [he] at ES
          clear ht HL HR HZ c1 c2 c3 he his
          go_wp2_with fail
          refine HHE.out.mono ?_
          rintro e w2 ⟨rfl, hb2⟩
          have H2 := Lib.hid (HX.out.bel hb2)
          obtain ⟨hr, c3, c4, f3, f4⟩ := rd6 H2.out.2
          have HST := Lib.hid (step1_any _ _ _ _ _ _ _ _ _ _ _ H2.out.2 hbn ((b : Int) + 1) rfl)
          have HO3 := Lib.hid (own_exc (own_exc HOW.out (Exc.of_below hb2 : Exc r _ _ _) HS.out) HST.out.1 HS.out)
          clear hb2
          go_wp2_with fail
          refine (ES.out _ HST.out.2).mono ?_
          rintro e w3 (⟨rn', b', g, h1, rfl, hg, hgs, h3⟩ | ⟨h1, _⟩)
          rotate_left
          · cases h1
          injection h1 with h1
          injection h1 with e1 e2
          subst e1 e2
          have H3 := Lib.hid ((H2.out.then HST.out).then h3)
          have HO4 := Lib.hid (own_exc HO3.out h3.1 HS.out)
          have HSR := Lib.hid (src_u8 (bytes_row hg (enc_bd rn HI.out.1)) rfl (Below.refl _ w3) (enc rn).length)
          have hel := (enc_len rn).2
          have hTl := HLT.out
          clear h3 hr c3 c4 f3 f4 hg hgs
          go_wp2_with (at_builtin; refine wpList_append_any _ rfl (.tmp 28) (.tmp 29) 22 22 rfl w.heap.size 5 i0 _ 1 Tryd.underlying22 I1.out I2.out I3.out rfl _ T.length (T.map (Value.int .u8)) rfl HO4.out _ (enc rn).length ((enc rn).map (Value.int .u8)) rfl HSR.out (by unfold maxLen; omega) (by rw [I4.out]; omega) H3.out.1.size ?_; intro v4 W4 hown4 hg4 hat4; clear hat4)
          have hb4 := grown_below' HO4.out hg4 H3.out.1.size
          have H4 : Hid (RdTo w r x0 x1 x2 p n cap zs bad b2 W4) := ⟨H3.out.1.trans (.of_below hb4), H3.out.2.keep hb4 HS.out HQ.out⟩
          have HOW4 := Lib.hid hown4
          clear hown4 hg4 hb4
          go_wp2
          go_roundw
          case rel => exact ⟨T ++ enc rn, b2, by have := HI.out.2.2; omega, HO2.out, by rw [List.length_append, List.map_append]; exact HOW4.out, enc_app HTB.out HI.out.1, by have := HI.out.2.1; rw [List.length_append]; omega, H4.out⟩
          case measure =>
            rw [atR_st HX.out.2, atR_st H4.out.2]
            have := HI.out.2
            omega
      · have HO2 := Lib.hid (ht.trans (rtxGo_raw c1 c2 c3))
        have hz1 := HZ.out
        clear ht HL HR HZ
        generalize hereZ zs b = z at HHE HO2 c1 c2 c3 hz1
        have t1 : (z == 34) = false := by simpa using c2
        have t2 : (z == 92) = false := by simpa using c3
        have wz := wraps_u8 z (by omega) (by omega)
        have HZB : Hid (∀ y ∈ [z], 0 ≤ y ∧ y ≤ 255) := fun y hy => by rw [List.mem_singleton.1 hy]; omega
        have hTl := HLT.out
        clear c2 c3
        go_wp2_with fail
        refine HHE.out.mono ?_
        rintro e w2 ⟨rfl, hb2⟩
        have H2 := Lib.hid (HX.out.bel hb2)
        obtain ⟨hr, c3, c4, f3, f4⟩ := rd6 H2.out.2
        have HST := Lib.hid (step1_any _ _ _ _ _ _ _ _ _ _ _ H2.out.2 hbn ((b : Int) + 1) rfl)
        have HO3 := Lib.hid (own_exc (own_exc HOW.out (Exc.of_below hb2 : Exc r _ _ _) HS.out) HST.out.1 HS.out)
        clear hb2
        go_upto_region 10 with (fail)
        have H3 := Lib.hid (H2.out.then HST.out)
        clear hr c3 c4 f3 f4
        generalize w2.setCell ⟨r, 4, none⟩ (.int .i64 ((b : Int) + 1)) = W3 at *
        go_wp2_with (at_builtin; refine wpList_append_any _ rfl (.tmp 43) (.tmp 46) 22 22 rfl w.heap.size 5 i0 _ 1 Tryd.underlying22 I1.out I2.out I3.out rfl _ T.length (T.map (Value.int .u8)) rfl (HO3.out.alloc _) _ 1 ([z].map (Value.int .u8)) rfl (src_u8 (bytes_row (heap_alloc_new _ _) HZB.out) rfl (Below.refl _ _) 1) (by unfold maxLen; omega) (by rw [I4.out]; omega) (by have := H3.out.1.size; simp; omega) ?_; intro v4 W4 hown4 hg4 hat4; clear hat4)
        have hb4 := grown_below HO3.out hg4 H3.out.1.size
        have H4 : Hid (RdTo w r x0 x1 x2 p n cap zs bad (b + 1) W4) := ⟨H3.out.1.trans (.of_below hb4), H3.out.2.keep hb4 HS.out HQ.out⟩
        have HOW4 := Lib.hid hown4
        clear hown4 hg4 hb4
        go_wp2
        go_roundw
        case rel => exact ⟨T ++ [z], b + 1, by omega, HO2.out, by rw [List.length_append, List.map_append]; exact HOW4.out, fun y hy => by
          rcases List.mem_append.1 hy with h1 | h1
          · exact HTB.out y h1
          · exact HZB.out y h1, by rw [List.length_append]; simp; omega, H4.out⟩
        case measure =>
          rw [atR_st HX.out.2, atR_st H4.out.2]
          omega
end Go.Proofs.YtneadcbadnicfaaDoor
