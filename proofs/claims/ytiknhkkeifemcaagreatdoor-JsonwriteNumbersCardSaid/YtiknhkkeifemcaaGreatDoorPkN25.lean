/-
  The hand's Made: the loop over the structs. Conditions: those that each theorem names.
-/
import Derived.Test.YtiknhkkeifemcaaGreatDoorPkN24
namespace Go.Proofs.YtiknhkkeifemcaaGreatDoor
open Go.ChangeShapes Go.WideShapes Go.ChangeAt Go.RowKit Go.Shelf

theorem isNum_kinds {kd ls : Nat} (h : isNumP kd ls = true) : 1 ≤ kd ∧ kd ≤ 10 := by
  unfold isNumP at h
  have h2 := (Bool.and_eq_true_iff.1 h).2
  have h3 : 0 < kSize kd := of_decide_eq_true h2
  rcases Nat.lt_or_ge kd 1 with h4 | h4
  · rw [kSize_else _ (.inl (by omega))] at h3
    omega
  · rcases Nat.lt_or_ge 10 kd with h5 | h5
    · rw [kSize_else _ (.inr (by omega))] at h3
      omega
    · exact ⟨h4, h5⟩
theorem kind_enum {p : Plan} {f : PF} {i : Nat} (h : kindP p i f = 10) : p.enums.length ≠ 0 ∧ refP p i f = f.ref % p.enums.length := by
  by_cases h10 : f.kind % 13 + 1 = 10
  · by_cases h0 : p.enums.length = 0
    · have := (kp_a (i := i) h10 h0).1
      omega
    · exact ⟨h0, (kp_b h10 h0).2⟩
  · by_cases h13 : f.kind % 13 + 1 = 13
    · cases ht : p.tree with
      | true =>
        by_cases hl : i + 1 = p.structs.length
        · have := (kp_c h13 ht hl).1
          omega
        · have := (kp_d h13 ht hl).1
          omega
      | false =>
        have := (kp_e (i := i) h13 ht).1
        omega
    · have := (kp_f (p := p) (i := i) h10 h13).1
      omega
theorem kindP_le (p : Plan) (i : Nat) (f : PF) : 1 ≤ kindP p i f ∧ kindP p i f ≤ 13 := by
  have h := Nat.mod_lt f.kind (show 0 < 13 by decide)
  unfold kindP
  split
  · omega
  · unfold kind0
    split <;> omega
theorem enum_at {p : Plan} {n0 : Nat} {es : List (SCho × Value)} (hes : es.map Prod.fst = chosP p n0) {k : Nat} (hk : k < n0) : ∃ h : k < es.length, es[k].1 = choP p k := by
  have hl : es.length = n0 := by have := congrArg List.length hes; rw [chosP_length] at this; simpa using this
  refine ⟨by omega, ?_⟩
  have h1 : (es.map Prod.fst)[k]? = (chosP p n0)[k]? := by rw [hes]
  rw [List.getElem?_map, List.getElem?_eq_getElem (by omega)] at h1
  unfold chosP at h1
  rw [List.getElem?_map, List.getElem?_range hk] at h1
  exact Option.some.inj h1
theorem nums_of {p : Plan} {f : PF} {i n0 base ls rt : Nat} {W : World} {ss : List (SRec × Value)} {es : List (SCho × Value)} {sv ev : Value} (hs : SchRows base W ss es sv ev) (hes : es.map Prod.fst = chosP p n0) (hel : p.enums.length = n0) (hd : (f.dflt : Int) ≤ 18446744073709551615) (h : isNumP (kindP p i f) ls = true) :
    NumsAre p (kindP p i f) (refP p i f) ls f.dflt sv ev rt W := by
  obtain ⟨h1, h10⟩ := isNum_kinds h
  by_cases hk : kindP p i f = 10
  · obtain ⟨h0, hr⟩ := kind_enum hk
    rw [hel] at h0 hr
    obtain ⟨hlt, he⟩ := enum_at hes (show refP p i f < n0 by rw [hr]; exact Nat.mod_lt _ (by omega))
    have hc : es[refP p i f].1.names.length = cntOf p (refP p i f) := by rw [he]; simp [choP]
    intro W' hb
    rw [hk, ← hc]
    exact numberE_any (refP p i f) ls f.dflt rt W' (hs.below hb) hlt (by rw [hc]; unfold cntOf; omega) hd
  · intro W' _
    exact hnumber_any (kindP p i f) (refP p i f) ls f.dflt (cntOf p (refP p i f)) sv ev rt W' hd h1 (by omega)
def FldsInv (w0 : World) (p : Plan) (l : List PF) (b i n c0 R : Nat) (a : Option Addr) (rn : Value) (c' : Act) (w' : World) : Prop :=
  ∃ (k : Nat) (fv : Value), k ≤ n ∧ FrD b i a n c0 R k c' ∧ Below R w0 w' ∧ w'.heap[R]? = some (.cells #[rn, fv] 63 (0, 0)) ∧ w'.ownsRow (R + 1) 60 5 fv k (sfldsCells (fldsP p i l k))
set_option maxRecDepth 100000 in
set_option maxHeartbeats 4000000 in
theorem flds_wp {Q : Exit → Act → World → Prop} {c : Act} {w wS w0 : World} {p : Plan} {a a0 a1 : Option Addr} {b i n c0 n0 e0 n1 c1 R rt : Nat} {rn sv ev : Value} {ss : List (SRec × Value)} {es : List (SCho × Value)} {l : List PF}
    (hF : ∀ k, k < n → ∃ B off, PFAt w a k (l.getD k noPF) B off) (hn : n ≤ 16) (hkp : MKeeps w b (.slice a0 n0 e0) (.slice a1 n1 c1) p.root p.tree wS) (hs : SchAt (b + 2) wS ss es sv ev rt) (hes : es.map Prod.fst = chosP p n0) (hel : p.enums.length = n0) (hsl : p.structs.length = n1)
    (hi : i < n1) (h16 : n1 ≤ 16) (h8 : n0 ≤ 8) (hbS : Below wS.heap.size wS w0) (hSR : wS.heap.size ≤ R) (hR : w0.heap[R]? = some (.cells #[rn, .slice none 0 0] 63 (0, 0))) (hc : FrD b i a n c0 R 0 c)
    (hQ : ∀ c' w' fv, FrD b i a n c0 R n c' → Below R w0 w' → w'.heap[R]? = some (.cells #[rn, fv] 63 (0, 0)) → w'.ownsRow (R + 1) 60 5 fv n (sfldsCells (fldsP p i l n)) → Q (.exit 6) c' w') :
    Code.wp Tryz.prog (Code.loop (madeLoop 3)) Q c w0 := by
  refine wp_loop (FldsInv w0 p l b i n c0 R a rn)
    (fun c' _ => n - (intOf (c'.tmps.getD 11 undef)).toNat) ⟨0, _, Nat.zero_le _, hc, Below.refl _ _, hR, World.ownsRow_nil _ _ _ _⟩ ?_
  clear hc hR
  rintro c wr ⟨k, fv, hk, hc, hb, hR, hrow⟩
  have hbb : Below wS.heap.size wS wr := hbS.trans (hb.mono hSR)
  have HSA := Lib.hid (hs.below hbb)
  have HKP := Lib.hid (hkp.below hbb (Nat.le_of_lt (blk_lt hs.blk)))
  have HQ := Lib.hid hQ
  have HB := Lib.hid hb
  have HR := Lib.hid hR
  have HROW := Lib.hid hrow
  have HES := Lib.hid hes
  have HEL := Lib.hid hel
  have HSL := Lib.hid hsl
  have hbR : b + 2 < R := Nat.lt_of_lt_of_le (blk_lt hs.blk) hSR
  have hRw : R < wr.heap.size := blk_lt hR
  have hbeq := hkp.hb
  obtain ⟨u, rfl⟩ := frd_lit hc
  by_cases hkl : k < n
  · obtain ⟨B, off, hpf⟩ := hF k hkl
    have HFX := Lib.hid (rfl : l.getD k noPF = l.getD k noPF)
    have HSN := Lib.hid (fldsP_succ p i l k)
    generalize l.getD k noPF = f at *
    have HPF := Lib.hid hpf
    obtain ⟨rfl, hB, x0, x1, x2, x3, x4, l0, l1, l2, l3, l4⟩ := hpf
    have y0 := (HKP.out.bel.cell (p := ⟨B, off + k * 5, none⟩) (by show B < b; omega)).trans x0
    have y1 := (HKP.out.bel.cell (p := ⟨B, off + k * 5 + 1, none⟩) (by show B < b; omega)).trans x1
    have hBb : B < b := by omega
    have HBEQ := Lib.hid hbeq
    clear hc hQ hb hR hrow hes hel hsl hbb hs hkp hF x0 x1 x2 x3 x4 l2 l3 hbS hB hbeq
    have m0 : (f.kind : Int).tmod 13 = ((f.kind % 13 : Nat) : Int) := by rw [Int.tmod_eq_emod_of_nonneg (by omega)]; omega
    have m1 : (f.lists : Int).tmod 4 = ((f.lists % 4 : Nat) : Int) := by rw [Int.tmod_eq_emod_of_nonneg (by omega)]; omega
    have hk13 : f.kind % 13 < 13 := by omega
    have hl4 : f.lists % 4 < 4 := by omega
    obtain ⟨kq, hkq⟩ : ∃ kq, f.kind % 13 = kq := ⟨_, rfl⟩
    obtain ⟨lq, hlq⟩ : ∃ lq, f.lists % 4 = lq := ⟨_, rfl⟩
    rw [hkq] at m0 hk13
    rw [hlq] at m1 hl4
    have HKQ := Lib.hid hkq
    have HLQ := Lib.hid hlq
    clear hkq hlq
    have v0 := u8_in (kq : Int) (by omega) (by omega)
    have v1 := u8_in ((kq : Int) + 1) (by omega) (by omega)
    have v2 := u8_in (lq : Int) (by omega) (by omega)
    have v3 := IntWalk.i64_in (lq : Int) (by omega)
    have hki : (k : Int) < n := by omega
    conv => arg 2; whnf
    go_upto_region 23 with (fail)
    go_region_held3 (fun w' => w'.cell? ⟨B, off + k * 5, none⟩ = some (.int .u8 (f.kind : Nat)) ∧ w'.cell? ⟨B, off + k * 5 + 1, none⟩ = some (.int .u8 (f.lists : Nat))) (first | assumption | go_keep) (first | fail)
    all_goals
      simp only [Exit.then]
      apply_assumption
      have hbt : Below wr.heap.size wr (wr.alloc (.cells #[.int .u8 ((kq : Int) + 1), .int .i64 0, .int .i64 lq] 47)).drew := ((Below.refl _ _).alloc (Nat.le_refl _) _).drew
      have hty : MTyAt (wr.alloc (.cells #[.int .u8 ((kq : Int) + 1), .int .i64 0, .int .i64 lq] 47)).drew wr.heap.size (f.kind % 13 + 1) 0 (f.lists % 4) := by
        rw [HKQ.out, HLQ.out]
        exact heap_alloc_new wr _
      generalize (wr.alloc (.cells #[.int .u8 ((kq : Int) + 1), .int .i64 0, .int .i64 lq] 47)).drew = W1 at *
      have hs1 := HSA.out.below hbt
      have hk1 := HKP.out.below hbt (by omega)
      obtain ⟨eva, evc, hevf⟩ := ownsRow_form hs1.rows.enums
      have hesl : es.length = n0 := by have := congrArg List.length HES.out; rw [chosP_length] at this; simpa using this
      rw [hesl] at hevf
      subst hevf
      refine kinds_wp (a0 := a0) (c1 := c1) ⟨rfl, rfl, rfl, rfl, rfl, rfl, rfl, rfl, rfl, rfl, rfl⟩ ⟨HPF.out, by rw [← HBEQ.out]; exact hk1.bel, HBEQ.out, by omega, (blk_cell hs1.blk 1).trans rfl, (blk_cell hk1.box 1).trans rfl, (blk_cell hk1.box 3).trans rfl, HEL.out, HSL.out, hi, h16, h8, hkl, hn⟩ hty ?_
      intro c2 W2 G hf2 hTG hbel hty2 hfl
      have hT : wr.heap.size < W1.heap.size := blk_lt hty
      have HS1 := Lib.hid hs1
      have hs2 : SchAt (b + 2) W2 ss es sv (.slice eva n0 evc) rt := HSA.out.below (hbt.trans hbel)
      have hb2 : Below wr.heap.size wr W2 := hbt.trans hbel
      have hR2 := blk_below HR.out hb2 (by omega)
      have hrow2 := row_keep hb2 HROW.out
      refine dflt_wp (w := w) (p := p) (fv := fv) (rn := rn) (xs := sfldsCells (fldsP p i l k)) hf2 HPF.out (by rw [← HBEQ.out]; exact (HKP.out.below hb2 (by omega)).bel) hkl hn hty2 (by have := (kindP_le p i f).2; omega) hfl hTG hRw hbR (by omega) hs2.blk (fun h => nums_of hs2.rows HES.out HEL.out l4 h) hR2 hrow2 (fun g hg => (ownsRow_lt HROW.out g hg).2) ?_
      intro c3 W4 fv' h1 h2 h3 h4
      have HF1 := Lib.hid h1
      have HB4 := Lib.hid ((HB.out.trans (hb2.mono (Nat.le_of_lt hRw))).trans h2)
      have HR4 := Lib.hid h3
      have HROW4 := Lib.hid h4
      obtain ⟨u3, rfl⟩ := frd_lit h1
      clear h1 h2 h3 h4 hR2 hrow2 hs2 hb2 hf2 hbel hty2 hfl hs1 hk1 hbt hty
      simp only [Exit.inBlock, Exit.then]
      apply_assumption
      go_wp2
      refine ⟨⟨k + 1, fv', by omega, ⟨rfl, rfl, rfl, rfl, rfl, rfl, rfl, rfl, rfl, rfl⟩, HB4.out, HR4.out, ?_⟩, ?_⟩
      · rw [HSN.out, sfldsCells_snoc]
        exact HROW4.out
      · show n - (intOf (.int .i64 ((k : Int) + 1))).toNat < n - (intOf (.int .i64 (k : Int))).toNat
        simp [intOf]; omega
  · obtain rfl : k = n := by omega
    clear hc hQ hb hR hrow hes hel hsl hbb hs hkp hF hbS hbeq
    conv => arg 2; whnf
    go_wp2
    exact HQ.out _ _ _ ⟨rfl, rfl, rfl, rfl, rfl, rfl, rfl, rfl, rfl, rfl⟩ HB.out HR.out HROW.out
end Go.Proofs.YtiknhkkeifemcaaGreatDoor
namespace Go.Proofs.YtiknhkkeifemcaaGreatDoor
open Go.ChangeShapes Go.WideShapes Go.ChangeAt Go.RowKit Go.Shelf

def LensOk (p : Plan) (i : Nat) : Prop := ∀ j, j < i → 1 ≤ (p.structs.getD j []).length ∧ (p.structs.getD j []).length ≤ 16
def RecsInv (w : World) (p : Plan) (es : List (SCho × Value)) (ev x0 x1 : Value) (b n1 rt : Nat) (c' : Act) (w' : World) : Prop :=
  ∃ (i : Nat) (ss : List (SRec × Value)) (sv : Value), i ≤ n1 ∧ FrC b i c' ∧ MKeeps w b x0 x1 p.root p.tree w' ∧ SchAt (b + 2) w' ss es sv ev rt ∧ ss.map Prod.fst = recsP p i ∧ LensOk p i
set_option maxRecDepth 100000 in
set_option maxHeartbeats 4000000 in
theorem recs_wp {Q : Exit → Act → World → Prop} {c : Act} {w w0 : World} {p : Plan} {a0 a1 : Option Addr} {n0 e0 n1 c1 b rt : Nat} {es : List (SCho × Value)} {ev : Value} (hp : IsPlan w p a0 n0 e0 a1 n1 c1) (h8 : n0 ≤ 8) (h16 : n1 ≤ 16) (hc : FrC b 0 c)
    (hk : MKeeps w b (.slice a0 n0 e0) (.slice a1 n1 c1) p.root p.tree w0) (hs : SchAt (b + 2) w0 [] es (.slice none 0 0) ev rt) (hes : es.map Prod.fst = chosP p n0)
    (hQ : ∀ c' w' ss sv, FrC b n1 c' → MKeeps w b (.slice a0 n0 e0) (.slice a1 n1 c1) p.root p.tree w' → SchAt (b + 2) w' ss es sv ev rt → ss.map Prod.fst = recsP p n1 → LensOk p n1 → Q (.exit 4) c' w')
    (hB : ∀ c' w' j, FrC b j c' → w'.heap[b + 1]? = some (.cells #[.slice none 0 0, .slice none 0 0, .int .i64 0] 30 (0, 0)) → Below b w w' → j < n1 → ¬ (1 ≤ (p.structs.getD j []).length ∧ (p.structs.getD j []).length ≤ 16) → Q .ret c' w') :
    Code.wp Tryz.prog (Code.loop (madeLoop 2)) Q c w0 := by
  refine wp_loop (RecsInv w p es ev (.slice a0 n0 e0) (.slice a1 n1 c1) b n1 rt)
    (fun c' _ => n1 - (intOf (c'.tmps.getD 8 undef)).toNat) ⟨0, [], _, Nat.zero_le _, hc, hk, hs, rfl, fun j hj => absurd hj (Nat.not_lt_zero j)⟩ ?_
  clear hc hk hs
  rintro c wr ⟨i, ss, sv, hi, hc, hk, hs, hss, hlen⟩
  have HP := Lib.hid hp
  have HQ := Lib.hid hQ
  have HBAD := Lib.hid hB
  have HK := Lib.hid hk
  have HS := Lib.hid hs
  have HES := Lib.hid hes
  have HSS := Lib.hid hss
  have HLEN := Lib.hid hlen
  have hssl : ss.length ≤ 16 := by have := congrArg List.length hss; rw [recsP_length] at this; simp at this; omega
  obtain ⟨u, rfl⟩ := frc_lit hc
  have y1 := (blk_cell hk.box 1).trans rfl
  have hbl : b + 2 < wr.heap.size := blk_lt hs.blk
  clear hc hQ hB hk hs hp hes hss hlen
  conv => arg 2; whnf
  by_cases hlt : i < n1
  · obtain ⟨B, off, a, n, cc, rfl, hB0, hz, hn, hnc, hcm, hfl⟩ := HP.out.s_at i hlt
    have hB : B < b := by rw [HK.out.hb]; exact hB0
    have hzr := (HK.out.bel.cell (p := ⟨B, off + i, none⟩) hB).trans hz
    have HFL := Lib.hid hfl
    have HN := Lib.hid hn
    clear hfl hz hB0
    by_cases hb1 : n < 1
    · obtain ⟨_, _, _, _, s0, s1, s2⟩ := blk3 HK.out.res
      clear hn
      go_wp2
      refine HBAD.out _ _ i ⟨rfl, rfl, rfl, rfl, rfl, rfl, rfl⟩ (blk_set3 HK.out.res _ _ _) (((HK.out.bel.setCell (p := ⟨b + 1, 0, none⟩) (by show b ≤ b + 1; omega) _).setCell (p := ⟨b + 1, 1, none⟩) (by show b ≤ b + 1; omega) _).setCell (p := ⟨b + 1, 2, none⟩) (by show b ≤ b + 1; omega) _) hlt (by rw [HN.out]; omega)
    · by_cases hb2 : 16 < n
      · obtain ⟨_, _, _, _, s0, s1, s2⟩ := blk3 HK.out.res
        clear hn
        go_wp2
        refine HBAD.out _ _ i ⟨rfl, rfl, rfl, rfl, rfl, rfl, rfl⟩ (blk_set3 HK.out.res _ _ _) (((HK.out.bel.setCell (p := ⟨b + 1, 0, none⟩) (by show b ≤ b + 1; omega) _).setCell (p := ⟨b + 1, 1, none⟩) (by show b ≤ b + 1; omega) _).setCell (p := ⟨b + 1, 2, none⟩) (by show b ≤ b + 1; omega) _) hlt (by rw [HN.out]; omega)
      · have kc := one_str
        have hsz : ¬ 9223372036854775807 < 1 + (strOfNums [97 + (i : Int)]).size := by rw [strOfNums_size]; simp
        obtain ⟨hbw2, hB1, hB2⟩ := two_start wr #[.int .u8 (97 + (i : Int))] #[.string (recName i), .slice none 0 0] 5 63
        have HB2 := Lib.hid hbw2
        have HBB := Lib.hid hB2
        clear hbw2 hB1 hB2 hn
        go_wp2_with fail
        refine flds_wp (a0 := a0) (c1 := c1) (R := wr.heap.size + 1) (rn := .string (recName i)) (l := p.structs.getD i []) ?_ (by omega) HK.out HS.out HES.out HP.out.e_len HP.out.s_len hlt h16 h8 HB2.out (by omega) HBB.out ⟨rfl, rfl, rfl, rfl, rfl, rfl, rfl, rfl, rfl, rfl⟩ ?_
        · intro k hk
          obtain ⟨b', off', f, hf, ha, hbf, x0, x1, x2, x3, x4, q0, q1, q2, q3, q4⟩ := HFL.out k hk
          rw [hf]
          exact ⟨b', off', ⟨ha, hbf, x0, x1, x2, x3, x4, q0, q1, q2, q3, q4⟩⟩
        intro c2 w2 fv hf hbel hR2 hrow2
        obtain ⟨fva, fvc, rfl⟩ := ownsRow_form hrow2
        have hb3 : Below wr.heap.size wr w2 := HB2.out.trans (hbel.mono (by omega))
        have hs2 := HS.out.below hb3
        have HS2 := Lib.hid hs2
        have HK2 := Lib.hid (HK.out.below hb3 (by omega))
        have HROW := Lib.hid hrow2
        have HPR : Hid (recP p i = ⟨recName i, fldsP p i (p.structs.getD i []) n⟩) := Lib.hid (by unfold recP; rw [HN.out])
        have HFN : Hid ((fldsP p i (p.structs.getD i []) n).length = n) := Lib.hid (fldsP_length _ _ _ _)
        have HLI : Hid (LensOk p (i + 1)) := Lib.hid (fun j hj => by
          rcases Nat.lt_or_ge j i with h | h
          · exact HLEN.out j h
          · obtain rfl : j = i := by omega
            rw [HN.out]
            omega)
        generalize fldsP p i (p.structs.getD i []) n = FL at *
        obtain ⟨_, z0, z1, z2, f0, f1, f2⟩ := blk3 hs2.blk
        obtain ⟨hCl, d0, d1, _⟩ := blk2 hR2
        obtain ⟨sva, svc, rfl⟩ := ownsRow_form hs2.rows.structs
        obtain ⟨i0, hi0, hzz0, hzz1, hzz2⟩ := info_parts srec_info
        have I1 := Lib.hid hi0
        have I2 := Lib.hid hzz0
        have I3 := Lib.hid hzz1
        have I4 := Lib.hid hzz2
        have hbs : b + 2 < w2.heap.size := blk_lt hs2.blk
        have HBN := Lib.hid (heap_alloc_new w2 (.cells #[.string (recName i), .slice fva n fvc] 63))
        have HBA := Lib.hid ((Below.refl w2.heap.size w2).alloc (Nat.le_refl _) (.cells #[.string (recName i), .slice fva n fvc] 63))
        obtain ⟨u2, rfl⟩ := frd_lit hf
        clear hf hbel hR2 hrow2 hb3 hs2 hi0 hzz0 hzz1 hzz2 HS HK y1 kc hsz hzr
        simp only [Exit.inBlock, Exit.then]
        apply_assumption
        go_wp2_with (at_builtin; refine wpList_append_own _ rfl (.tmp 235) (.tmp 237) 27 rfl (b + 2 + 1) 63 i0 _ 2 40 Tryz.underlying27 I1.out I2.out I3.out I4.out rfl (by decide) _ ss.length (srecsCells ss) rfl (row_keep HBA.out HS2.out.rows.structs) _ 1 1 [.string (recName i), .slice fva n fvc] rfl rfl (World.news_of_block HBN.out) (by intro u hu; simp at hu; rcases hu with rfl | rfl <;> rfl) (by unfold maxLen; omega) (by omega) (by simp; omega) ?_; intro v4 W8 hown4 hg4 hx; clear hx; obtain ⟨a4, m4, rfl⟩ := ownsRow_form hown4; have s5 := SchAt.strct (q := (⟨recName i, FL⟩, .slice fva n fvc)) (HS2.out.below HBA.out) (by have h := ownsRow_base (row_keep HBA.out HROW.out) (show b + 2 + 1 ≤ wr.heap.size + 1 + 1 by omega); show World.ownsRow _ _ _ _ _ FL.length (sfldsCells FL); rw [HFN.out]; exact h) hg4 hown4; have s4 : W8.heap[b + 2]? = some (.cells #[.slice sva ss.length svc, ev, .int .i64 rt] 30 (0, 0)) := (hg4.block (b + 2) (by simp; omega) (fun e => by have := (ownsRow_lt HS2.out.rows.structs _ e.symm).1; omega)).trans (HS2.out.below HBA.out).blk; obtain ⟨_, p0, p1, p2, q0, q1, q2⟩ := blk3 s4; have S5 := Lib.hid s5; have S6 := Lib.hid (bel_app HBA.out hbs hg4 (fun k hk => by have := (ownsRow_lt HS2.out.rows.structs k hk).1; omega) 0 (.slice a4 (ss.length + 1) m4)); clear s5 s4 hown4 hg4)
        refine ⟨⟨i + 1, _, _, by omega, ⟨rfl, rfl, rfl, rfl, rfl, rfl, rfl⟩, HK2.out.below S6.out (Nat.le_refl _), S5.out, by rw [List.map_append, HSS.out, recsP_succ, HPR.out]; rfl, HLI.out⟩, ?_⟩
        show n1 - (intOf (.int .i64 ((i : Int) + 1))).toNat < n1 - (intOf (.int .i64 (i : Int))).toNat
        simp [intOf]; omega
  · obtain rfl : i = n1 := by omega
    clear hlt
    go_wp2
    exact HQ.out _ _ _ _ ⟨rfl, rfl, rfl, rfl, rfl, rfl, rfl⟩ HK.out HS.out HSS.out HLEN.out
end Go.Proofs.YtiknhkkeifemcaaGreatDoor
