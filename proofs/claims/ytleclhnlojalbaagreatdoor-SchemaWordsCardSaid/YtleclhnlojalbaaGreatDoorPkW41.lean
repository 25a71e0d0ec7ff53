/-
  What the frames of this seat's proofs share: the program's own facts, and what a walk is told of a slice of integers that came in. No conditions.
-/
import Derived.Test.YtleclhnlojalbaaGreatDoorPkW2
import Derived.Test.YtleclhnlojalbaaGreatDoorPkW21
import Derived.Test.YtleclhnlojalbaaGreatDoorRows
import Derived.WalkKit
import Derived.ProofKit
import Derived.OpenShut
import Derived.ShutString
import Derived.ChangeOld
import Derived.Below
import Derived.Deep.DeepHandedRow
namespace Go.Proofs.YtleclhnlojalbaaGreatDoor
open Go.ChangeShapes Go.WideShapes Go.ChangeAt Go.RowKit Go.Shelf

theorem isNum_kinds {kd ls : Nat} (h : isNumP kd ls = true) : 1 ≤ kd ∧ kd ≤ 10 := by
  unfold isNumP at h
  have h2 := (Bool.and_eq_true_iff.1 h).2
  have h3 : 0 < kSize kd := of_decide_eq_true h2
  rcases Nat.lt_or_ge kd 1 with h4 | h4
  · rw [kSize_else _ (.inl (by omega))] at h3
    omega
  · rcases Nat.lt_or_ge 10 kd with h5 | h5
    · rw [kSize_else _ (.inr (by omega))] at h3
      omega
    · exact ⟨h4, h5⟩
theorem kind_enum {p : Plan} {f : PF} {i : Nat} (h : kindP p i f = 10) : p.enums.length ≠ 0 ∧ refP p i f = f.ref % p.enums.length := by
  by_cases h10 : f.kind % 13 + 1 = 10
  · by_cases h0 : p.enums.length = 0
    · have := (kp_a (i := i) h10 h0).1
      omega
    · exact ⟨h0, (kp_b h10 h0).2⟩
  · by_cases h13 : f.kind % 13 + 1 = 13
    · cases ht : p.tree with
      | true =>
        by_cases hl : i + 1 = p.structs.length
        · have := (kp_c h13 ht hl).1
          omega
        · have := (kp_d h13 ht hl).1
          omega
      | false =>
        have := (kp_e (i := i) h13 ht).1
        omega
    · have := (kp_f (p := p) (i := i) h10 h13).1
      omega
theorem kindP_le (p : Plan) (i : Nat) (f : PF) : 1 ≤ kindP p i f ∧ kindP p i f ≤ 13 := by
  have h := Nat.mod_lt f.kind (show 0 < 13 by decide)
  unfold kindP
  split
  · omega
  · unfold kind0
    split <;> omega
theorem enum_at {p : Plan} {n0 : Nat} {es : List (SCho × Value)} (hes : es.map Prod.fst = chosP p n0) {k : Nat} (hk : k < n0) : ∃ h : k < es.length, es[k].1 = choP p k := by
  have hl : es.length = n0 := by have := congrArg List.length hes; rw [chosP_length] at this; simpa using this
  refine ⟨by omega, ?_⟩
  have h1 : (es.map Prod.fst)[k]? = (chosP p n0)[k]? := by rw [hes]
  rw [List.getElem?_map, List.getElem?_eq_getElem (by omega)] at h1
  unfold chosP at h1
  rw [List.getElem?_map, List.getElem?_range hk] at h1
  exact Option.some.inj h1
theorem nums_of {p : Plan} {f : PF} {i n0 base ls rt : Nat} {W : World} {ss : List (SRec × Value)} {es : List (SCho × Value)} {sv ev : Value} (hs : SchRows base W ss es sv ev) (hes : es.map Prod.fst = chosP p n0) (hel : p.enums.length = n0) (hd : (f.dflt : Int) ≤ 18446744073709551615) (h : isNumP (kindP p i f) ls = true) :
    NumsAre p (kindP p i f) (refP p i f) ls f.dflt sv ev rt W := by
  obtain ⟨h1, h10⟩ := isNum_kinds h
  by_cases hk : kindP p i f = 10
  · obtain ⟨h0, hr⟩ := kind_enum hk
    rw [hel] at h0 hr
    obtain ⟨hlt, he⟩ := enum_at hes (show refP p i f < n0 by rw [hr]; exact Nat.mod_lt _ (by omega))
    have hc : es[refP p i f].1.names.length = cntOf p (refP p i f) := by rw [he]; simp [choP]
    intro W' hb
    rw [hk, ← hc]
    exact numberE_any (refP p i f) ls f.dflt rt W' (hs.below hb) hlt (by rw [hc]; unfold cntOf; omega) hd
  · intro W' _
    exact hnumber_any (kindP p i f) (refP p i f) ls f.dflt (cntOf p (refP p i f)) sv ev rt W' hd h1 (by omega)
def FldsInv (w0 : World) (p : Plan) (l : List PF) (b i n c0 R : Nat) (a : Option Addr) (rn : Value) (c' : Act) (w' : World) : Prop :=
  ∃ (k : Nat) (fv : Value), k ≤ n ∧ FrD b i a n c0 R k c' ∧ Below R w0 w' ∧ w'.heap[R]? = some (.cells #[rn, fv] 58 (0, 0)) ∧ w'.ownsRow (R + 1) 55 5 fv k (sfldsCells (fldsP p i l k))
set_option maxRecDepth 100000 in
set_option maxHeartbeats 4000000 in
theorem flds_wp {Q : Exit → Act → World → Prop} {c : Act} {w wS w0 : World} {p : Plan} {a a0 a1 : Option Addr} {b i n c0 n0 e0 n1 c1 R rt : Nat} {rn sv ev : Value} {ss : List (SRec × Value)} {es : List (SCho × Value)} {l : List PF}
    (hF : ∀ k, k < n → ∃ B off, PFAt w a k (l.getD k noPF) B off) (hn : n ≤ 16) (hkp : MKeeps w b (.slice a0 n0 e0) (.slice a1 n1 c1) p.root p.tree wS) (hs : SchAt (b + 2) wS ss es sv ev rt) (hes : es.map Prod.fst = chosP p n0) (hel : p.enums.length = n0) (hsl : p.structs.length = n1)
    (hi : i < n1) (h16 : n1 ≤ 16) (h8 : n0 ≤ 8) (hbS : Below wS.heap.size wS w0) (hSR : wS.heap.size ≤ R) (hR : w0.heap[R]? = some (.cells #[rn, .slice none 0 0] 58 (0, 0))) (hc : FrD b i a n c0 R 0 c)
    (hQ : ∀ c' w' fv, FrD b i a n c0 R n c' → Below R w0 w' → w'.heap[R]? = some (.cells #[rn, fv] 58 (0, 0)) → w'.ownsRow (R + 1) 55 5 fv n (sfldsCells (fldsP p i l n)) → Q (.exit 6) c' w') :
    Code.wp Tryz.prog (Code.loop (madeLoop 3)) Q c w0 := by
  refine wp_loop (FldsInv w0 p l b i n c0 R a rn)
    (fun c' _ => n - (intOf (c'.tmps.getD 11 undef)).toNat) ⟨0, _, Nat.zero_le _, hc, Below.refl _ _, hR, World.ownsRow_nil _ _ _ _⟩ ?_
  clear hc hR
  rintro c wr ⟨k, fv, hk, hc, hb, hR, hrow⟩
  have hbb : Below wS.heap.size wS wr := hbS.trans (hb.mono hSR)
  have HSA := Lib.hid (hs.below hbb)
  have HKP := Lib.hid (hkp.below hbb (Nat.le_of_lt (blk_lt hs.blk)))
  have HQ := Lib.hid hQ
  have HB := Lib.hid hb
  have HR := Lib.hid hR
  have HROW := Lib.hid hrow
  have HES := Lib.hid hes
  have HEL := Lib.hid hel
  have HSL := Lib.hid hsl
  have hbR : b + 2 < R := Nat.lt_of_lt_of_le (blk_lt hs.blk) hSR
  have hRw : R < wr.heap.size := blk_lt hR
  have hbeq := hkp.hb
  obtain ⟨u, rfl⟩ := frd_lit hc
  by_cases hkl : k < n
  · obtain ⟨B, off, hpf⟩ := hF k hkl
    have HFX := Lib.hid (rfl : l.getD k noPF = l.getD k noPF)
    have HSN := Lib.hid (fldsP_succ p i l k)
    generalize l.getD k noPF = f at *
    have HPF := Lib.hid hpf
    obtain ⟨rfl, hB, x0, x1, x2, x3, x4, l0, l1, l2, l3, l4⟩ := hpf
    have y0 := (HKP.out.bel.cell (p := ⟨B, off + k * 5, none⟩) (by show B < b; omega)).trans x0
    have y1 := (HKP.out.bel.cell (p := ⟨B, off + k * 5 + 1, none⟩) (by show B < b; omega)).trans x1
    have hBb : B < b := by omega
    have HBEQ := Lib.hid hbeq
    clear hc hQ hb hR hrow hes hel hsl hbb hs hkp hF x0 x1 x2 x3 x4 l2 l3 hbS hB hbeq
    have m0 : (f.kind : Int).tmod 13 = ((f.kind % 13 : Nat) : Int) := by rw [Int.tmod_eq_emod_of_nonneg (by omega)]; omega
    have m1 : (f.lists : Int).tmod 4 = ((f.lists % 4 : Nat) : Int) := by rw [Int.tmod_eq_emod_of_nonneg (by omega)]; omega
    have hk13 : f.kind % 13 < 13 := by omega
    have hl4 : f.lists % 4 < 4 := by omega
    obtain ⟨kq, hkq⟩ : ∃ kq, f.kind % 13 = kq := ⟨_, rfl⟩
    obtain ⟨lq, hlq⟩ : ∃ lq, f.lists % 4 = lq := ⟨_, rfl⟩
    rw [hkq] at m0 hk13
    rw [hlq] at m1 hl4
    have HKQ := Lib.hid hkq
    have HLQ := Lib.hid hlq
    clear hkq hlq
    have v0 := u8_in (kq : Int) (by omega) (by omega)
    have v1 := u8_in ((kq : Int) + 1) (by omega) (by omega)
    have v2 := u8_in (lq : Int) (by omega) (by omega)
    have v3 := IntWalk.i64_in (lq : Int) (by omega)
    have hki : (k : Int) < n := by omega
    conv => arg 2; whnf
    go_upto_region 23 with (fail)
    go_region_held3 (fun w' => w'.cell? ⟨B, off + k * 5, none⟩ = some (.int .u8 (f.kind : Nat)) ∧ w'.cell? ⟨B, off + k * 5 + 1, none⟩ = some (.int .u8 (f.lists : Nat))) (first | assumption | go_keep) (first | fail)
    all_goals
      simp only [Exit.then]
      apply_assumption
      have hbt : Below wr.heap.size wr (wr.alloc (.cells #[.int .u8 ((kq : Int) + 1), .int .i64 0, .int .i64 lq] 53)).drew := ((Below.refl _ _).alloc (Nat.le_refl _) _).drew
      have hty : MTyAt (wr.alloc (.cells #[.int .u8 ((kq : Int) + 1), .int .i64 0, .int .i64 lq] 53)).drew wr.heap.size (f.kind % 13 + 1) 0 (f.lists % 4) := by
        rw [HKQ.out, HLQ.out]
        exact heap_alloc_new wr _
      generalize (wr.alloc (.cells #[.int .u8 ((kq : Int) + 1), .int .i64 0, .int .i64 lq] 53)).drew = W1 at *
      have hs1 := HSA.out.below hbt
      have hk1 := HKP.out.below hbt (by omega)
      obtain ⟨eva, evc, hevf⟩ := ownsRow_form hs1.rows.enums
      have hesl : es.length = n0 := by have := congrArg List.length HES.out; rw [chosP_length] at this; simpa using this
      rw [hesl] at hevf
      subst hevf
      refine kinds_wp (a0 := a0) (c1 := c1) ⟨rfl, rfl, rfl, rfl, rfl, rfl, rfl, rfl, rfl, rfl, rfl⟩ ⟨HPF.out, by rw [← HBEQ.out]; exact hk1.bel, HBEQ.out, by omega, (blk_cell hs1.blk 1).trans rfl, (blk_cell hk1.box 1).trans rfl, (blk_cell hk1.box 3).trans rfl, HEL.out, HSL.out, hi, h16, h8, hkl, hn⟩ hty ?_
      intro c2 W2 G hf2 hTG hbel hty2 hfl
      have hT : wr.heap.size < W1.heap.size := blk_lt hty
      have HS1 := Lib.hid hs1
      have hs2 : SchAt (b + 2) W2 ss es sv (.slice eva n0 evc) rt := HSA.out.below (hbt.trans hbel)
      have hb2 : Below wr.heap.size wr W2 := hbt.trans hbel
      have hR2 := blk_below HR.out hb2 (by omega)
      have hrow2 := row_keep hb2 HROW.out
      refine dflt_wp (w := w) (p := p) (fv := fv) (rn := rn) (xs := sfldsCells (fldsP p i l k)) hf2 HPF.out (by rw [← HBEQ.out]; exact (HKP.out.below hb2 (by omega)).bel) hkl hn hty2 (by have := (kindP_le p i f).2; omega) hfl hTG hRw hbR (by omega) hs2.blk (fun h => nums_of hs2.rows HES.out HEL.out l4 h) hR2 hrow2 (fun g hg => (ownsRow_lt HROW.out g hg).2) ?_
      intro c3 W4 fv' h1 h2 h3 h4
      have HF1 := Lib.hid h1
      have HB4 := Lib.hid ((HB.out.trans (hb2.mono (Nat.le_of_lt hRw))).trans h2)
      have HR4 := Lib.hid h3
      have HROW4 := Lib.hid h4
      obtain ⟨u3, rfl⟩ := frd_lit h1
      clear h1 h2 h3 h4 hR2 hrow2 hs2 hb2 hf2 hbel hty2 hfl hs1 hk1 hbt hty
      simp only [Exit.inBlock, Exit.then]
      apply_assumption
      go_wp2
      refine ⟨⟨k + 1, fv', by omega, ⟨rfl, rfl, rfl, rfl, rfl, rfl, rfl, rfl, rfl, rfl⟩, HB4.out, HR4.out, ?_⟩, ?_⟩
      · rw [HSN.out, sfldsCells_snoc]
        exact HROW4.out
      · show n - (intOf (.int .i64 ((k : Int) + 1))).toNat < n - (intOf (.int .i64 (k : Int))).toNat
        simp [intOf]; omega
  · obtain rfl : k = n := by omega
    clear hc hQ hb hR hrow hes hel hsl hbb hs hkp hF hbS hbeq
    conv => arg 2; whnf
    go_wp2
    exact HQ.out _ _ _ ⟨rfl, rfl, rfl, rfl, rfl, rfl, rfl, rfl, rfl, rfl⟩ HB.out HR.out HROW.out
end Go.Proofs.YtleclhnlojalbaaGreatDoor
namespace Go.Proofs.YtleclhnlojalbaaGreatDoor
open Go.ChangeShapes Go.WideShapes Go.ChangeAt Go.RowKit Go.Shelf

def LensOk (p : Plan) (i : Nat) : Prop := ∀ j, j < i → 1 ≤ (p.structs.getD j []).length ∧ (p.structs.getD j []).length ≤ 16
def RecsInv (w : World) (p : Plan) (es : List (SCho × Value)) (ev x0 x1 : Value) (b n1 rt : Nat) (c' : Act) (w' : World) : Prop :=
  ∃ (i : Nat) (ss : List (SRec × Value)) (sv : Value), i ≤ n1 ∧ FrC b i c' ∧ MKeeps w b x0 x1 p.root p.tree w' ∧ SchAt (b + 2) w' ss es sv ev rt ∧ ss.map Prod.fst = recsP p i ∧ LensOk p i
set_option maxRecDepth 100000 in
set_option maxHeartbeats 4000000 in
theorem recs_wp {Q : Exit → Act → World → Prop} {c : Act} {w w0 : World} {p : Plan} {a0 a1 : Option Addr} {n0 e0 n1 c1 b rt : Nat} {es : List (SCho × Value)} {ev : Value} (hp : IsPlan w p a0 n0 e0 a1 n1 c1) (h8 : n0 ≤ 8) (h16 : n1 ≤ 16) (hc : FrC b 0 c)
    (hk : MKeeps w b (.slice a0 n0 e0) (.slice a1 n1 c1) p.root p.tree w0) (hs : SchAt (b + 2) w0 [] es (.slice none 0 0) ev rt) (hes : es.map Prod.fst = chosP p n0)
    (hQ : ∀ c' w' ss sv, FrC b n1 c' → MKeeps w b (.slice a0 n0 e0) (.slice a1 n1 c1) p.root p.tree w' → SchAt (b + 2) w' ss es sv ev rt → ss.map Prod.fst = recsP p n1 → LensOk p n1 → Q (.exit 4) c' w')
    (hB : ∀ c' w' j, FrC b j c' → w'.heap[b + 1]? = some (.cells #[.slice none 0 0, .slice none 0 0, .int .i64 0] 32 (0, 0)) → Below b w w' → j < n1 → ¬ (1 ≤ (p.structs.getD j []).length ∧ (p.structs.getD j []).length ≤ 16) → Q .ret c' w') :
    Code.wp Tryz.prog (Code.loop (madeLoop 2)) Q c w0 := by
  refine wp_loop (RecsInv w p es ev (.slice a0 n0 e0) (.slice a1 n1 c1) b n1 rt)
    (fun c' _ => n1 - (intOf (c'.tmps.getD 8 undef)).toNat) ⟨0, [], _, Nat.zero_le _, hc, hk, hs, rfl, fun j hj => absurd hj (Nat.not_lt_zero j)⟩ ?_
  clear hc hk hs
  rintro c wr ⟨i, ss, sv, hi, hc, hk, hs, hss, hlen⟩
  have HP := Lib.hid hp
  have HQ := Lib.hid hQ
  have HBAD := Lib.hid hB
  have HK := Lib.hid hk
  have HS := Lib.hid hs
  have HES := Lib.hid hes
  have HSS := Lib.hid hss
  have HLEN := Lib.hid hlen
  have hssl : ss.length ≤ 16 := by have := congrArg List.length hss; rw [recsP_length] at this; simp at this; omega
  obtain ⟨u, rfl⟩ := frc_lit hc
  have y1 := (blk_cell hk.box 1).trans rfl
  have hbl : b + 2 < wr.heap.size := blk_lt hs.blk
  clear hc hQ hB hk hs hp hes hss hlen
  conv => arg 2; whnf
  by_cases hlt : i < n1
  · obtain ⟨B, off, a, n, cc, rfl, hB0, hz, hn, hnc, hcm, hfl⟩ := HP.out.s_at i hlt
    have hB : B < b := by rw [HK.out.hb]; exact hB0
    have hzr := (HK.out.bel.cell (p := ⟨B, off + i, none⟩) hB).trans hz
    have HFL := Lib.hid hfl
    have HN := Lib.hid hn
    clear hfl hz hB0
    by_cases hb1 : n < 1
    · obtain ⟨_, _, _, _, s0, s1, s2⟩ := blk3 HK.out.res
      clear hn
      go_wp2
      refine HBAD.out _ _ i ⟨rfl, rfl, rfl, rfl, rfl, rfl, rfl⟩ (blk_set3 HK.out.res _ _ _) (((HK.out.bel.setCell (p := ⟨b + 1, 0, none⟩) (by show b ≤ b + 1; omega) _).setCell (p := ⟨b + 1, 1, none⟩) (by show b ≤ b + 1; omega) _).setCell (p := ⟨b + 1, 2, none⟩) (by show b ≤ b + 1; omega) _) hlt (by rw [HN.out]; omega)
    · by_cases hb2 : 16 < n
      · obtain ⟨_, _, _, _, s0, s1, s2⟩ := blk3 HK.out.res
        clear hn
        go_wp2
        refine HBAD.out _ _ i ⟨rfl, rfl, rfl, rfl, rfl, rfl, rfl⟩ (blk_set3 HK.out.res _ _ _) (((HK.out.bel.setCell (p := ⟨b + 1, 0, none⟩) (by show b ≤ b + 1; omega) _).setCell (p := ⟨b + 1, 1, none⟩) (by show b ≤ b + 1; omega) _).setCell (p := ⟨b + 1, 2, none⟩) (by show b ≤ b + 1; omega) _) hlt (by rw [HN.out]; omega)
      · have kc := one_str
        have hsz : ¬ 9223372036854775807 < 1 + (strOfNums [97 + (i : Int)]).size := by rw [strOfNums_size]; simp
        obtain ⟨hbw2, hB1, hB2⟩ := two_start wr #[.int .u8 (97 + (i : Int))] #[.string (recName i), .slice none 0 0] 5 58
        have HB2 := Lib.hid hbw2
        have HBB := Lib.hid hB2
        clear hbw2 hB1 hB2 hn
        go_wp2_with fail
        refine flds_wp (a0 := a0) (c1 := c1) (R := wr.heap.size + 1) (rn := .string (recName i)) (l := p.structs.getD i []) ?_ (by omega) HK.out HS.out HES.out HP.out.e_len HP.out.s_len hlt h16 h8 HB2.out (by omega) HBB.out ⟨rfl, rfl, rfl, rfl, rfl, rfl, rfl, rfl, rfl, rfl⟩ ?_
        · intro k hk
          obtain ⟨b', off', f, hf, ha, hbf, x0, x1, x2, x3, x4, q0, q1, q2, q3, q4⟩ := HFL.out k hk
          rw [hf]
          exact ⟨b', off', ⟨ha, hbf, x0, x1, x2, x3, x4, q0, q1, q2, q3, q4⟩⟩
        intro c2 w2 fv hf hbel hR2 hrow2
        obtain ⟨fva, fvc, rfl⟩ := ownsRow_form hrow2
        have hb3 : Below wr.heap.size wr w2 := HB2.out.trans (hbel.mono (by omega))
        have hs2 := HS.out.below hb3
        have HS2 := Lib.hid hs2
        have HK2 := Lib.hid (HK.out.below hb3 (by omega))
        have HROW := Lib.hid hrow2
        have HPR : Hid (recP p i = ⟨recName i, fldsP p i (p.structs.getD i []) n⟩) := Lib.hid (by unfold recP; rw [HN.out])
        have HFN : Hid ((fldsP p i (p.structs.getD i []) n).length = n) := Lib.hid (fldsP_length _ _ _ _)
        have HLI : Hid (LensOk p (i + 1)) := Lib.hid (fun j hj => by
          rcases Nat.lt_or_ge j i with h | h
          · exact HLEN.out j h
          · obtain rfl : j = i := by omega
            rw [HN.out]
            omega)
        generalize fldsP p i (p.structs.getD i []) n = FL at *
        obtain ⟨_, z0, z1, z2, f0, f1, f2⟩ := blk3 hs2.blk
        obtain ⟨hCl, d0, d1, _⟩ := blk2 hR2
        obtain ⟨sva, svc, rfl⟩ := ownsRow_form hs2.rows.structs
        obtain ⟨i0, hi0, hzz0, hzz1, hzz2⟩ := info_parts srec_info
        have I1 := Lib.hid hi0
        have I2 := Lib.hid hzz0
        have I3 := Lib.hid hzz1
        have I4 := Lib.hid hzz2
        have hbs : b + 2 < w2.heap.size := blk_lt hs2.blk
        have HBN := Lib.hid (heap_alloc_new w2 (.cells #[.string (recName i), .slice fva n fvc] 58))
        have HBA := Lib.hid ((Below.refl w2.heap.size w2).alloc (Nat.le_refl _) (.cells #[.string (recName i), .slice fva n fvc] 58))
        obtain ⟨u2, rfl⟩ := frd_lit hf
        clear hf hbel hR2 hrow2 hb3 hs2 hi0 hzz0 hzz1 hzz2 HS HK y1 kc hsz hzr
        simp only [Exit.inBlock, Exit.then]
        apply_assumption
        go_wp2_with (at_builtin; refine wpList_append_own _ rfl (.tmp 235) (.tmp 237) 29 rfl (b + 2 + 1) 58 i0 _ 2 40 Tryz.underlying29 I1.out I2.out I3.out I4.out rfl (by decide) _ ss.length (srecsCells ss) rfl (row_keep HBA.out HS2.out.rows.structs) _ 1 1 [.string (recName i), .slice fva n fvc] rfl rfl (World.news_of_block HBN.out) (by intro u hu; simp at hu; rcases hu with rfl | rfl <;> rfl) (by unfold maxLen; omega) (by omega) (by simp; omega) ?_; intro v4 W8 hown4 hg4 hx; clear hx; obtain ⟨a4, m4, rfl⟩ := ownsRow_form hown4; have s5 := SchAt.strct (q := (⟨recName i, FL⟩, .slice fva n fvc)) (HS2.out.below HBA.out) (by have h := ownsRow_base (row_keep HBA.out HROW.out) (show b + 2 + 1 ≤ wr.heap.size + 1 + 1 by omega); show World.ownsRow _ _ _ _ _ FL.length (sfldsCells FL); rw [HFN.out]; exact h) hg4 hown4; have s4 : W8.heap[b + 2]? = some (.cells #[.slice sva ss.length svc, ev, .int .i64 rt] 32 (0, 0)) := (hg4.block (b + 2) (by simp; omega) (fun e => by have := (ownsRow_lt HS2.out.rows.structs _ e.symm).1; omega)).trans (HS2.out.below HBA.out).blk; obtain ⟨_, p0, p1, p2, q0, q1, q2⟩ := blk3 s4; have S5 := Lib.hid s5; have S6 := Lib.hid (bel_app HBA.out hbs hg4 (fun k hk => by have := (ownsRow_lt HS2.out.rows.structs k hk).1; omega) 0 (.slice a4 (ss.length + 1) m4)); clear s5 s4 hown4 hg4)
        refine ⟨⟨i + 1, _, _, by omega, ⟨rfl, rfl, rfl, rfl, rfl, rfl, rfl⟩, HK2.out.below S6.out (Nat.le_refl _), S5.out, by rw [List.map_append, HSS.out, recsP_succ, HPR.out]; rfl, HLI.out⟩, ?_⟩
        show n1 - (intOf (.int .i64 ((i : Int) + 1))).toNat < n1 - (intOf (.int .i64 (i : Int))).toNat
        simp [intOf]; omega
  · obtain rfl : i = n1 := by omega
    clear hlt
    go_wp2
    exact HQ.out _ _ _ _ ⟨rfl, rfl, rfl, rfl, rfl, rfl, rfl⟩ HK.out HS.out HSS.out HLEN.out
end Go.Proofs.YtleclhnlojalbaaGreatDoor
namespace Go.Proofs.YtleclhnlojalbaaGreatDoor
open Go.ChangeShapes Go.WideShapes Go.ChangeAt Go.RowKit Go.Shelf

def MadePost (p : Plan) (w : World) (e : Ending) (w' : World) : Prop :=
  Below w.heap.size w w' ∧ ((planOk p ∧ ∃ ss es sv ev, e = .returned (.tuple #[.agg #[sv, ev, .int .i64 (p.root % p.structs.length : Nat)], .bool true]) ∧ ss.map Prod.fst = recsP p p.structs.length ∧ es.map Prod.fst = chosP p p.enums.length ∧ SchRows w.heap.size w' ss es sv ev) ∨
    (¬ planOk p ∧ e = .returned (.tuple #[.agg #[.slice none 0 0, .slice none 0 0, .int .i64 0], .bool false])))
theorem made_no {p : Plan} {w w' : World} (h : ¬ planOk p) (hb : Below w.heap.size w w') : MadePost p w (.returned (.tuple #[.agg #[.slice none 0 0, .slice none 0 0, .int .i64 0], .bool false])) w' := ⟨hb, .inr ⟨h, rfl⟩⟩
theorem lens_ok {p : Plan} (h1 : 1 ≤ p.structs.length) (h2 : p.structs.length ≤ 16) (h3 : p.enums.length ≤ 8) (h : LensOk p p.structs.length) : planOk p := by
  refine ⟨h1, h2, h3, fun l hl => ?_⟩
  obtain ⟨j, hj, rfl⟩ := List.getElem_of_mem hl
  have := h j hj
  rwa [List.getD, List.getElem?_eq_getElem hj] at this
theorem lens_bad {p : Plan} {j : Nat} (hj : j < p.structs.length) (h : ¬ (1 ≤ (p.structs.getD j []).length ∧ (p.structs.getD j []).length ≤ 16)) : ¬ planOk p := by
  intro ho
  apply h
  rw [List.getD, List.getElem?_eq_getElem hj]
  exact ho.2.2.2 _ (List.getElem_mem hj)
set_option maxRecDepth 100000 in
set_option maxHeartbeats 4000000 in
theorem made_bad (p : Plan) (w : World) {a0 a1 : Option Addr} {n0 e0 n1 c1 : Nat} (hp : IsPlan w p a0 n0 e0 a1 n1 c1) (hg : ¬ (1 ≤ n1 ∧ n1 ≤ 16 ∧ n0 ≤ 8)) :
    Calls Tryz.prog 11 #[.agg #[.slice a0 n0 e0, .slice a1 n1 c1, .int .u8 p.root, .bool p.tree]] w (MadePost p w) := by
  obtain ⟨hb, hz1, hz2⟩ := two_start w #[.slice a0 n0 e0, .slice a1 n1 c1, .int .u8 p.root, .bool p.tree] #[.slice none 0 0, .slice none 0 0, .int .i64 0] 27 32
  have HP := Lib.hid hp
  have HB := Lib.hid hb
  have HZ1 := Lib.hid hz1
  have HZ2 := Lib.hid hz2
  have hrt := hp.rt
  have hcaps : n0 ≤ 9223372036854775807 ∧ n1 ≤ 9223372036854775807 := by
    have h1 := hp.e_cap
    have h2 := hp.s_cap
    unfold maxLen at h1 h2
    omega
  obtain ⟨hn0, hn1⟩ := hcaps
  have y0 := (blk_cell hz1 0).trans rfl
  have y1 := (blk_cell hz1 1).trans rfl
  have y2 := (blk_cell hz1 2).trans rfl
  obtain ⟨_, _, _, _, s0, s1, s2⟩ := blk3 hz2
  clear hp hb hz1 hz2
  have HNO : Hid (¬ planOk p) := Lib.hid (fun ho => hg ⟨by rw [← HP.out.s_len]; exact ho.1, by rw [← HP.out.s_len]; exact ho.2.1, by rw [← HP.out.e_len]; exact ho.2.2.1⟩)
  by_cases g1 : n1 < 1
  · have t1 : decide ((n1 : Int) < 1) = true := decide_eq_true (by omega)
    clear hg
    go_enter Tryz.func11, Tryz.ntmps11
    go_wp2
    refine post_gen (fun Wf => Wf.heap[w.heap.size + 1]? = some (.cells #[.slice none 0 0, .slice none 0 0, .int .i64 0] 32 (0, 0)) ∧ Below w.heap.size w Wf) ⟨?_, ?_⟩ ?_
    · first
        | exact HZ2.out
        | exact blk_set3 HZ2.out _ _ _
    · first
        | exact HB.out
        | exact ((HB.out.setCell (p := ⟨w.heap.size + 1, 0, none⟩) (Nat.le_succ _) _).setCell (p := ⟨w.heap.size + 1, 1, none⟩) (Nat.le_succ _) _).setCell (p := ⟨w.heap.size + 1, 2, none⟩) (Nat.le_succ _) _
    · rintro Wf ⟨e1, e2⟩
      obtain ⟨_, d0, d1, d2, _⟩ := blk3 e1
      exact bodyPost_ret (v := .tuple #[.agg #[.slice none 0 0, .slice none 0 0, .int .i64 0], .bool false]) (by simp [results, Tryz.results11, go_sem, d0, d1, d2]) rfl (made_no (HNO.out) e2)
  · by_cases g2 : 16 < n1
    · have t1 : decide ((n1 : Int) < 1) = false := decide_eq_false (by omega)
      have t2 : decide ((16 : Int) < n1) = true := decide_eq_true (by omega)
      clear hg
      go_enter Tryz.func11, Tryz.ntmps11
      go_wp2
      refine post_gen (fun Wf => Wf.heap[w.heap.size + 1]? = some (.cells #[.slice none 0 0, .slice none 0 0, .int .i64 0] 32 (0, 0)) ∧ Below w.heap.size w Wf) ⟨?_, ?_⟩ ?_
      · first
        | exact HZ2.out
        | exact blk_set3 HZ2.out _ _ _
      · first
        | exact HB.out
        | exact ((HB.out.setCell (p := ⟨w.heap.size + 1, 0, none⟩) (Nat.le_succ _) _).setCell (p := ⟨w.heap.size + 1, 1, none⟩) (Nat.le_succ _) _).setCell (p := ⟨w.heap.size + 1, 2, none⟩) (Nat.le_succ _) _
      · rintro Wf ⟨e1, e2⟩
        obtain ⟨_, d0, d1, d2, _⟩ := blk3 e1
        exact bodyPost_ret (v := .tuple #[.agg #[.slice none 0 0, .slice none 0 0, .int .i64 0], .bool false]) (by simp [results, Tryz.results11, go_sem, d0, d1, d2]) rfl (made_no (HNO.out) e2)
    · have g3 : 8 < n0 := by omega
      have t1 : decide ((n1 : Int) < 1) = false := decide_eq_false (by omega)
      have t2 : decide ((16 : Int) < n1) = false := decide_eq_false (by omega)
      have t3 : decide ((8 : Int) < n0) = true := decide_eq_true (by omega)
      clear hg
      go_enter Tryz.func11, Tryz.ntmps11
      go_wp2
      refine post_gen (fun Wf => Wf.heap[w.heap.size + 1]? = some (.cells #[.slice none 0 0, .slice none 0 0, .int .i64 0] 32 (0, 0)) ∧ Below w.heap.size w Wf) ⟨?_, ?_⟩ ?_
      · first
        | exact HZ2.out
        | exact blk_set3 HZ2.out _ _ _
      · first
        | exact HB.out
        | exact ((HB.out.setCell (p := ⟨w.heap.size + 1, 0, none⟩) (Nat.le_succ _) _).setCell (p := ⟨w.heap.size + 1, 1, none⟩) (Nat.le_succ _) _).setCell (p := ⟨w.heap.size + 1, 2, none⟩) (Nat.le_succ _) _
      · rintro Wf ⟨e1, e2⟩
        obtain ⟨_, d0, d1, d2, _⟩ := blk3 e1
        exact bodyPost_ret (v := .tuple #[.agg #[.slice none 0 0, .slice none 0 0, .int .i64 0], .bool false]) (by simp [results, Tryz.results11, go_sem, d0, d1, d2]) rfl (made_no (HNO.out) e2)
end Go.Proofs.YtleclhnlojalbaaGreatDoor
namespace Go.Proofs.YtleclhnlojalbaaGreatDoor
open Go.ChangeShapes Go.WideShapes Go.ChangeAt Go.RowKit Go.Shelf

set_option maxRecDepth 100000 in
set_option maxHeartbeats 4000000 in
theorem made_any (p : Plan) (w : World) {a0 a1 : Option Addr} {n0 e0 n1 c1 : Nat} (hp : IsPlan w p a0 n0 e0 a1 n1 c1) :
    Calls Tryz.prog 11 #[.agg #[.slice a0 n0 e0, .slice a1 n1 c1, .int .u8 p.root, .bool p.tree]] w (MadePost p w) := by
  obtain ⟨hb, hz1, hz2⟩ := two_start w #[.slice a0 n0 e0, .slice a1 n1 c1, .int .u8 p.root, .bool p.tree] #[.slice none 0 0, .slice none 0 0, .int .i64 0] 27 32
  have HP := Lib.hid hp
  have HB := Lib.hid hb
  have HZ1 := Lib.hid hz1
  have HZ2 := Lib.hid hz2
  have hrt := hp.rt
  have hcaps : n0 ≤ 9223372036854775807 ∧ n1 ≤ 9223372036854775807 := by
    have h1 := hp.e_cap
    have h2 := hp.s_cap
    unfold maxLen at h1 h2
    omega
  obtain ⟨hn0, hn1⟩ := hcaps
  have y0 := (blk_cell hz1 0).trans rfl
  have y1 := (blk_cell hz1 1).trans rfl
  have y2 := (blk_cell hz1 2).trans rfl
  obtain ⟨_, _, _, _, s0, s1, s2⟩ := blk3 hz2
  clear hp hb hz1 hz2
  by_cases hg : 1 ≤ n1 ∧ n1 ≤ 16 ∧ n0 ≤ 8
  · obtain ⟨g1, g2, g3⟩ := hg
    have hmod : (p.root : Int) % (n1 : Int) = ((p.root % n1 : Nat) : Int) := (Int.natCast_emod _ _).symm
    have hz0 : (n1 : Int) ≠ 0 := by omega
    have HRT : Hid (p.root % n1 = p.root % p.structs.length) := Lib.hid (by rw [HP.out.s_len])
    generalize p.root % n1 = rt at *
    have hsz : ((w.alloc (.cells #[.slice a0 n0 e0, .slice a1 n1 c1, .int .u8 p.root, .bool p.tree] 27)).alloc (.cells #[.slice none 0 0, .slice none 0 0, .int .i64 0] 32)).heap.size = w.heap.size + 2 := by simp
    have HSZ := Lib.hid hsz
    clear hsz
    go_enter Tryz.func11, Tryz.ntmps11
    go_upto_region 4 with (fail)
    generalize (w.alloc (.cells #[.slice a0 n0 e0, .slice a1 n1 c1, .int .u8 p.root, .bool p.tree] 27)).alloc (.cells #[.slice none 0 0, .slice none 0 0, .int .i64 0] 32) = W0 at *
    have hba : Below W0.heap.size W0 (W0.alloc (.cells #[.slice none 0 0, .slice none 0 0, .int .i64 rt] 32)) := (Below.refl _ _).alloc (Nat.le_refl _) _
    have hba2 := hba
    rw [HSZ.out] at hba2
    have HK1 : Hid (MKeeps w w.heap.size (.slice a0 n0 e0) (.slice a1 n1 c1) p.root p.tree (W0.alloc (.cells #[.slice none 0 0, .slice none 0 0, .int .i64 rt] 32))) := Lib.hid ⟨rfl, blk_below HZ1.out hba (blk_lt HZ1.out), blk_below HZ2.out hba (blk_lt HZ2.out), HB.out.trans (hba.mono HB.out.size)⟩
    have hnew := heap_alloc_new W0 (.cells #[.slice none 0 0, .slice none 0 0, .int .i64 rt] 32)
    rw [HSZ.out] at hnew
    have HS1 : Hid (SchAt (w.heap.size + 2) (W0.alloc (.cells #[.slice none 0 0, .slice none 0 0, .int .i64 rt] 32)) [] [] (.slice none 0 0) (.slice none 0 0) rt) := Lib.hid ⟨hnew, World.ownsRow_nil _ _ _ _, World.ownsRow_nil _ _ _ _, (fun q hq => by cases hq), (fun q hq => by cases hq)⟩
    clear hba hba2 hnew y0 y1 y2 s0 s1 s2
    generalize W0.alloc (.cells #[.slice none 0 0, .slice none 0 0, .int .i64 rt] 32) = W1 at *
    go_wp2_with fail
    refine enums_wp HP.out g3 ⟨rfl, rfl, rfl, rfl, rfl, rfl, rfl⟩ HK1.out HS1.out ?_
    intro c2 w2 es ev hf hk hs hes
    have HK2 := Lib.hid hk
    have HS2 := Lib.hid hs
    have HES := Lib.hid hes
    obtain ⟨u, rfl⟩ := fra_lit hf
    clear hf hk hs hes
    simp only [Exit.inBlock, Exit.then]
    apply_assumption
    go_wp2_with fail
    refine recs_wp HP.out g3 g2 ⟨rfl, rfl, rfl, rfl, rfl, rfl, rfl⟩ HK2.out HS2.out HES.out ?_ ?_
    · intro c3 w3 ss sv hf hk hs hss hlen
      have HK3 := Lib.hid hk
      have HS3 := Lib.hid hs
      have HOK : Hid (planOk p) := Lib.hid (lens_ok (by rw [HP.out.s_len]; exact g1) (by rw [HP.out.s_len]; exact g2) (by rw [HP.out.e_len]; exact g3) (by rw [HP.out.s_len]; exact hlen))
      have HSS := Lib.hid hss
      obtain ⟨_, o0, o1, o2, _⟩ := blk3 hs.blk
      obtain ⟨_, r0, r1, r2, q0, q1, q2⟩ := blk3 hk.res
      obtain ⟨u3, rfl⟩ := frc_lit hf
      obtain ⟨sva, svc, eva, evc, rfl, rfl⟩ := hs.rows.forms
      clear hf hk hs hss hlen
      simp only [Exit.inBlock, Exit.then]
      apply_assumption
      go_wp2
      refine post_gen (fun Wf => Wf.heap[w.heap.size + 1]? = some (.cells #[.slice sva ss.length svc, .slice eva es.length evc, .int .i64 rt] 32 (0, 0)) ∧ Below w.heap.size w Wf ∧ SchRows w.heap.size Wf ss es (.slice sva ss.length svc) (.slice eva es.length evc)) ⟨?_, ?_, ?_⟩ ?_
      · exact blk_set3 HK3.out.res _ _ _
      · exact ((HK3.out.bel.setCell (p := ⟨w.heap.size + 1, 0, none⟩) (Nat.le_succ _) _).setCell (p := ⟨w.heap.size + 1, 1, none⟩) (Nat.le_succ _) _).setCell (p := ⟨w.heap.size + 1, 2, none⟩) (Nat.le_succ _) _
      · have hr := HS3.out.rows
        have key : ∀ {e : TypeId} {s : Nat} {v : Value} {n : Nat} {xs : List Value}, w3.ownsRow (w.heap.size + 2 + 1) e s v n xs → World.ownsRow (((w3.setCell ⟨w.heap.size + 1, 0, none⟩ (.slice sva ss.length svc)).setCell ⟨w.heap.size + 1, 1, none⟩ (.slice eva es.length evc)).setCell ⟨w.heap.size + 1, 2, none⟩ (.int .i64 rt)) w.heap.size e s v n xs := fun ho =>
          ownsRow_base (ownsRow_setCell_below (ownsRow_setCell_below (ownsRow_setCell_below ho (by show w.heap.size + 1 < _; omega) _) (by show w.heap.size + 1 < _; omega) _) (by show w.heap.size + 1 < _; omega) _) (by omega)
        exact ⟨key hr.structs, key hr.enums, fun q hq => key (hr.fields q hq), fun q hq => key (hr.names q hq)⟩
      · rintro Wf ⟨e1, e2, e3⟩
        obtain ⟨_, d0, d1, d2, _⟩ := blk3 e1
        refine bodyPost_ret (v := .tuple #[.agg #[.slice sva ss.length svc, .slice eva es.length evc, .int .i64 rt], .bool true]) (by simp [results, Tryz.results11, go_sem, d0, d1, d2]) rfl ⟨e2, .inl ⟨HOK.out, ss, es, _, _, ?_, ?_, ?_, e3⟩⟩
        · rw [HRT.out]
        · rw [HP.out.s_len]; exact HSS.out
        · rw [HP.out.e_len]; exact HES.out
    · intro c3 w3 j hf hres hbel hj hbad
      have HNO : Hid (¬ planOk p) := Lib.hid (lens_bad (by rw [HP.out.s_len]; exact hj) hbad)
      have HRE := Lib.hid hres
      have HBE := Lib.hid hbel
      obtain ⟨u3, rfl⟩ := frc_lit hf
      clear hf hres hbel hj hbad
      simp only [Exit.inBlock, Exit.then]
      refine post_gen (fun Wf => Wf.heap[w.heap.size + 1]? = some (.cells #[.slice none 0 0, .slice none 0 0, .int .i64 0] 32 (0, 0)) ∧ Below w.heap.size w Wf) ⟨HRE.out, HBE.out⟩ ?_
      rintro Wf ⟨e1, e2⟩
      obtain ⟨_, d0, d1, d2, _⟩ := blk3 e1
      exact bodyPost_ret (v := .tuple #[.agg #[.slice none 0 0, .slice none 0 0, .int .i64 0], .bool false]) (by simp [results, Tryz.results11, go_sem, d0, d1, d2]) rfl (made_no HNO.out e2)
  · exact made_bad p w HP.out hg
end Go.Proofs.YtleclhnlojalbaaGreatDoor
namespace Go.Proofs.YtleclhnlojalbaaGreatDoor
open Go.ChangeShapes Go.WideShapes Go.ChangeAt Go.RowKit Go.Shelf

def PlanNums (p : Plan) : Prop := ∀ i, i < p.structs.length → ∀ k, k < (p.structs.getD i []).length → (((p.structs.getD i []).getD k noPF).dflt : Int) ≤ 18446744073709551615
theorem plan_nums {w : World} {p : Plan} {a0 a1 : Option Addr} {n0 e0 n1 c1 : Nat} (hp : IsPlan w p a0 n0 e0 a1 n1 c1) : PlanNums p := by
  intro i hi k hk
  obtain ⟨_, _, _, n, _, _, _, _, hn, _, _, hfl⟩ := hp.s_at i (by rw [← hp.s_len]; exact hi)
  obtain ⟨_, _, f, hf, _, _, _, _, _, _, _, _, _, _, _, h⟩ := hfl k (by rw [← hn]; exact hk)
  rw [hf]
  exact h
theorem name2_size (x : UInt8) (y : Int) : ((⟨#[x]⟩ : ByteArray) ++ strOfNums [y]).size = 2 := by
  rw [ByteArray.size_append, strOfNums_size]
  rfl
theorem label_size (n k : Nat) : (labelOf n k).size ≤ 7 := by
  unfold labelOf
  rw [ByteArray.size_append, strOfNums_size]
  have := heads_size (m := n % 10) (Nat.mod_lt _ (by decide))
  simp
  exact this
theorem sgn_max (m n : Int) (h1 : 0 < m) (h2 : m ≤ 2147483648) : sgn m n ≤ 18446744073709551615 := by
  unfold sgn
  have := Int.emod_lt_of_pos n (show 0 < 2 * m by omega)
  split <;> omega
theorem sgnOf_max (n s : Int) (h : n ≤ 18446744073709551615) : sgnOf n s ≤ 18446744073709551615 := by
  unfold sgnOf
  split
  · exact sgn_max _ _ (by decide) (by decide)
  · split
    · exact sgn_max _ _ (by decide) (by decide)
    · split
      · exact sgn_max _ _ (by decide) (by decide)
      · exact h
theorem numP_max (cnt kind n : Nat) (hn : (n : Int) ≤ 18446744073709551615) : (numP cnt kind n : Int) ≤ 18446744073709551615 := by
  unfold numP
  split
  · omega
  · split
    · have := Nat.mod_le n cnt
      omega
    · have hm : ((if kSize kind < 8 then n % 2 ^ (8 * (kSize kind).toNat) else n : Nat) : Int) ≤ 18446744073709551615 := by
        split
        · have := Nat.mod_le n (2 ^ (8 * (kSize kind).toNat))
          omega
        · exact hn
      simp only
      generalize (if kSize kind < 8 then n % 2 ^ (8 * (kSize kind).toNat) else n : Nat) = m at *
      split
      · have := sgnOf_max m (kSize kind) hm
        omega
      · exact hm
theorem refP_struct {p : Plan} {f : PF} {i : Nat} (hi : i < p.structs.length) (h : kindP p i f = 13) : refP p i f < p.structs.length := by
  by_cases h10 : f.kind % 13 + 1 = 10
  · by_cases h0 : p.enums.length = 0
    · have := (kp_a (i := i) h10 h0).1
      omega
    · have := (kp_b (i := i) h10 h0).1
      omega
  · by_cases h13 : f.kind % 13 + 1 = 13
    · cases ht : p.tree with
      | true =>
        by_cases hl : i + 1 = p.structs.length
        · have := (kp_c h13 ht hl).1
          omega
        · rw [(kp_d h13 ht hl).2]
          have := Nat.mod_lt f.ref (show 0 < p.structs.length - i - 1 by omega)
          omega
      | false =>
        rw [(kp_e (i := i) h13 ht).2]
        exact Nat.mod_lt _ (by omega)
    · have := (kp_f (p := p) (i := i) h10 h13).1
      omega
theorem few_of {p : Plan} (h : planOk p) (hn : PlanNums p) : Few (schP p) := by
  obtain ⟨h1, h2, h3, h4⟩ := h
  have hel : (schP p).enums.length = p.enums.length := chosP_length _ _
  have hsl : (schP p).structs.length = p.structs.length := recsP_length _ _
  refine ⟨by omega, by omega, ?_, ?_, ?_, ?_⟩
  · intro c hc
    obtain ⟨i, hi, rfl⟩ := List.mem_map.1 hc
    refine ⟨Nat.le_trans (Nat.le_of_eq (name2_size _ _)) (by decide), ?_, fun n hn => ?_⟩
    · simp [choP]
      unfold cntOf
      have := Nat.mod_lt (p.enums.getD i 0) (show 0 < 32 by decide)
      omega
    · obtain ⟨k, _, rfl⟩ := List.mem_map.1 hn
      unfold valName
      rw [ByteArray.size_append, strOfNums_size]
      show 1 + 2 ≤ 100
      decide
  · intro r hr
    obtain ⟨i, hi, rfl⟩ := List.mem_map.1 hr
    have hi' := List.mem_range.1 hi
    refine ⟨Nat.le_trans (Nat.le_of_eq (name2_size _ _)) (by decide), ?_⟩
    show (fldsP _ _ _ _).length ≤ 100
    rw [fldsP_length]
    have := (h4 _ (getD_mem [] hi')).2
    omega
  · intro r hr f hf
    obtain ⟨i, hi, rfl⟩ := List.mem_map.1 hr
    have hi' := List.mem_range.1 hi
    obtain ⟨k, hk, rfl⟩ := List.mem_map.1 hf
    have hk' := List.mem_range.1 hk
    have hd := hn i hi' k hk'
    generalize (p.structs.getD i []).getD k noPF = g at *
    obtain ⟨k1, k13⟩ := kindP_le p i g
    refine ⟨Nat.le_trans (label_size _ _) (by decide), ?_, k1, k13, ?_, ?_, ?_⟩
    · show g.lists % 4 ≤ 3
      omega
    · show ((if isNumP (kindP p i g) (g.lists % 4) = true then numP (cntOf p (refP p i g)) (kindP p i g) g.dflt else 0 : Nat) : Int) ≤ _
      split
      · exact numP_max _ _ _ hd
      · decide
    · intro h10
      have h10' : kindP p i g = 10 := h10
      obtain ⟨h0, hr'⟩ := kind_enum h10'
      have hlt : refP p i g < p.enums.length := by rw [hr']; exact Nat.mod_lt _ (by omega)
      refine ⟨by rw [hel]; exact hlt, fun _ => ?_⟩
      have e : ((schP p).enums[refP p i g]'(by rw [hel]; exact hlt)) = choP p (refP p i g) := by simp [schP, chosP]
      show (if isNumP (kindP p i g) (g.lists % 4) = true then numP (cntOf p (refP p i g)) (kindP p i g) g.dflt else 0) < ((schP p).enums[refP p i g]'(by rw [hel]; exact hlt)).names.length
      rw [e]
      have hc : (choP p (refP p i g)).names.length = cntOf p (refP p i g) := by simp [choP]
      have hcp : 0 < cntOf p (refP p i g) := by unfold cntOf; omega
      rw [hc]
      split
      · rw [h10']
        exact Nat.mod_lt _ hcp
      · exact hcp
    · intro h13
      rw [hsl]
      exact refP_struct hi' h13
  · rw [hsl]
    exact Nat.mod_lt _ (by omega)
end Go.Proofs.YtleclhnlojalbaaGreatDoor
namespace Go.Proofs.YtleclhnlojalbaaGreatDoor
open Go.ChangeShapes Go.WideShapes Go.ChangeAt Go.RowKit Go.Shelf

theorem IsPlan.below {w W : World} {p : Plan} {a0 a1 : Option Addr} {n0 e0 n1 c1 : Nat} (h : IsPlan w p a0 n0 e0 a1 n1 c1) (hb : Below w.heap.size w W) : IsPlan W p a0 n0 e0 a1 n1 c1 := by
  refine ⟨h.e_len, h.s_len, h.e_cap, h.s_cap, h.rt, fun j hj => ?_, fun r hr => ?_⟩
  · obtain ⟨h1, b, off, h2, h3, h4⟩ := h.e_at j hj
    exact ⟨h1, b, off, h2, Nat.lt_of_lt_of_le h3 hb.size, (hb.cell (p := ⟨b, off + j, none⟩) h3).trans h4⟩
  · obtain ⟨b, off, a, n, c, h2, h3, h4, h5, h6, h7, h8⟩ := h.s_at r hr
    refine ⟨b, off, a, n, c, h2, Nat.lt_of_lt_of_le h3 hb.size, (hb.cell (p := ⟨b, off + r, none⟩) h3).trans h4, h5, h6, h7, fun k hk => ?_⟩
    obtain ⟨b', off', f, g1, g2, g3, x0, x1, x2, x3, x4, q⟩ := h8 k hk
    exact ⟨b', off', f, g1, g2, Nat.lt_of_lt_of_le g3 hb.size, (hb.cell (p := ⟨b', off' + k * 5, none⟩) g3).trans x0, (hb.cell (p := ⟨b', off' + k * 5 + 1, none⟩) g3).trans x1, (hb.cell (p := ⟨b', off' + k * 5 + 2, none⟩) g3).trans x2, (hb.cell (p := ⟨b', off' + k * 5 + 3, none⟩) g3).trans x3, (hb.cell (p := ⟨b', off' + k * 5 + 4, none⟩) g3).trans x4, q⟩
theorem blk4p {w : World} {g : Nat} {x y z u : Value} {t : TypeId} (h : w.heap[g]? = some (.cells #[x, y, z, u] t (0, 0))) :
    g < w.heap.size ∧ w.cell? ⟨g, 0, none⟩ = some x ∧ w.cell? ⟨g, 1, none⟩ = some y ∧ w.cell? ⟨g, 2, none⟩ = some z ∧ w.cell? ⟨g, 3, none⟩ = some u :=
  ⟨blk_lt h, (blk_cell h 0).trans rfl, (blk_cell h 1).trans rfl, (blk_cell h 2).trans rfl, (blk_cell h 3).trans rfl⟩
end Go.Proofs.YtleclhnlojalbaaGreatDoor
namespace Go.Proofs.YtleclhnlojalbaaGreatDoor
open Go.ChangeShapes Go.WideShapes Go.ChangeAt Go.RowKit

theorem own : ownKnob Tryz.prog.godebug = none := by kernel_rfl
theorem laidOut : laidOutB Tryz.prog = true := by kernel_rfl
def IsRow (k : IntKind) (w : World) (a : Option Addr) (len cap : Nat) (zs : List Int) : Prop :=
  len ≤ cap ∧ cap ≤ maxLen ∧ zs.length = cap ∧ (∀ n ∈ zs, (Lit.int k n).wf = true) ∧
  (zs ≠ [] → ∃ b off, a = some ⟨b, off, none⟩ ∧ b < w.heap.size ∧ ∀ j, j < zs.length → w.cell? ⟨b, off + j, none⟩ = some (.int k (zs.getD j 0)))
theorem isRow_nil (k : IntKind) (w : World) (a : Option Addr) : IsRow k w a 0 0 [] :=
  ⟨Nat.le_refl _, Nat.zero_le _, rfl, (fun n h => by simp at h), (fun h => absurd rfl h)⟩
theorem isRow_of {k : IntKind} {w : World} {x : Addr} {len cap : Nat} {zs : List Int} (hl : len ≤ cap) (hm : cap ≤ maxLen) (hz : zs.length = cap)
    (hc : ∀ i, i < zs.length → w.cell? (x.add i) = some (.int k (zs.getD i 0))) (hw : ∀ n ∈ zs, (Lit.int k n).wf = true) : IsRow k w (some x) len cap zs := by
  refine ⟨hl, hm, hz, hw, fun hne => ?_⟩
  have h0 : 0 < zs.length := List.length_pos_iff.2 hne
  obtain ⟨b, off, rfl, hc'⟩ := ints_at hc h0
  exact ⟨b, off, rfl, World.block_lt_of_cell? _ _ (hc' 0 h0), hc'⟩
end Go.Proofs.YtleclhnlojalbaaGreatDoor
