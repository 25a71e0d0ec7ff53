/-
  The hand's Made: the loop over a struct's fields. Conditions: those that each theorem names.
-/
import Derived.Test.YtjeoekggdohhiaaDoorPkB25
namespace Go.Proofs.YtjeoekggdohhiaaDoor
open Go.ChangeShapes Go.WideShapes Go.ChangeAt Go.RowKit Go.Shelf

theorem isNum_kinds {kd ls : Nat} (h : isNumP kd ls = true) : 1 ≤ kd ∧ kd ≤ 10 := by
  unfold isNumP at h
  have h2 := (Bool.and_eq_true_iff.1 h).2
  have h3 : 0 < kSize kd := of_decide_eq_true h2
  rcases Nat.lt_or_ge kd 1 with h4 | h4
  · rw [kSize_else _ (.inl (by omega))] at h3
    omega
  · rcases Nat.lt_or_ge 10 kd with h5 | h5
    · rw [kSize_else _ (.inr (by omega))] at h3
      omega
    · exact ⟨h4, h5⟩
theorem kind_enum {p : Plan} {f : PF} {i : Nat} (h : kindP p i f = 10) : p.enums.length ≠ 0 ∧ refP p i f = f.ref % p.enums.length := by
  by_cases h10 : f.kind % 13 + 1 = 10
  · by_cases h0 : p.enums.length = 0
    · have := (kp_a (i := i) h10 h0).1
      omega
    · exact ⟨h0, (kp_b h10 h0).2⟩
  · by_cases h13 : f.kind % 13 + 1 = 13
    · cases ht : p.tree with
      | true =>
        by_cases hl : i + 1 = p.structs.length
        · have := (kp_c h13 ht hl).1
          omega
        · have := (kp_d h13 ht hl).1
          omega
      | false =>
        have := (kp_e (i := i) h13 ht).1
        omega
    · have := (kp_f (p := p) (i := i) h10 h13).1
      omega
theorem kindP_le (p : Plan) (i : Nat) (f : PF) : 1 ≤ kindP p i f ∧ kindP p i f ≤ 13 := by
  have h := Nat.mod_lt f.kind (show 0 < 13 by decide)
  unfold kindP
  split
  · omega
  · unfold kind0
    split <;> omega
theorem enum_at {p : Plan} {n0 : Nat} {es : List (SCho × Value)} (hes : es.map Prod.fst = chosP p n0) {k : Nat} (hk : k < n0) : ∃ h : k < es.length, es[k].1 = choP p k := by
  have hl : es.length = n0 := by have := congrArg List.length hes; rw [chosP_length] at this; simpa using this
  refine ⟨by omega, ?_⟩
  have h1 : (es.map Prod.fst)[k]? = (chosP p n0)[k]? := by rw [hes]
  rw [List.getElem?_map, List.getElem?_eq_getElem (by omega)] at h1
  unfold chosP at h1
  rw [List.getElem?_map, List.getElem?_range hk] at h1
  exact Option.some.inj h1
theorem nums_of {p : Plan} {f : PF} {i n0 base ls rt : Nat} {W : World} {ss : List (SRec × Value)} {es : List (SCho × Value)} {sv ev : Value} (hs : SchRows base W ss es sv ev) (hes : es.map Prod.fst = chosP p n0) (hel : p.enums.length = n0) (hd : (f.dflt : Int) ≤ 18446744073709551615) (h : isNumP (kindP p i f) ls = true) :
    NumsAre p (kindP p i f) (refP p i f) ls f.dflt sv ev rt W := by
  obtain ⟨h1, h10⟩ := isNum_kinds h
  by_cases hk : kindP p i f = 10
  · obtain ⟨h0, hr⟩ := kind_enum hk
    rw [hel] at h0 hr
    obtain ⟨hlt, he⟩ := enum_at hes (show refP p i f < n0 by rw [hr]; exact Nat.mod_lt _ (by omega))
    have hc : es[refP p i f].1.names.length = cntOf p (refP p i f) := by rw [he]; simp [choP]
    intro W' hb
    rw [hk, ← hc]
    exact numberE_any (refP p i f) ls f.dflt rt W' (hs.below hb) hlt (by rw [hc]; unfold cntOf; omega) hd
  · intro W' _
    exact hnumber_any (kindP p i f) (refP p i f) ls f.dflt (cntOf p (refP p i f)) sv ev rt W' hd h1 (by omega)
def FldsInv (w0 : World) (p : Plan) (l : List PF) (b i n c0 R : Nat) (a : Option Addr) (rn : Value) (c' : Act) (w' : World) : Prop :=
  ∃ (k : Nat) (fv : Value), k ≤ n ∧ FrD b i a n c0 R k c' ∧ Below R w0 w' ∧ w'.heap[R]? = some (.cells #[rn, fv] 51 (0, 0)) ∧ w'.ownsRow (R + 1) 57 5 fv k (sfldsCells (fldsP p i l k))
set_option maxRecDepth 100000 in
set_option maxHeartbeats 4000000 in
theorem flds_wp {Q : Exit → Act → World → Prop} {c : Act} {w wS w0 : World} {p : Plan} {a a0 a1 : Option Addr} {b i n c0 n0 e0 n1 c1 R rt : Nat} {rn sv ev : Value} {ss : List (SRec × Value)} {es : List (SCho × Value)} {l : List PF}
    (hF : ∀ k, k < n → ∃ B off, PFAt w a k (l.getD k noPF) B off) (hn : n ≤ 16) (hkp : MKeeps w b (.slice a0 n0 e0) (.slice a1 n1 c1) p.root p.tree wS) (hs : SchAt (b + 2) wS ss es sv ev rt) (hes : es.map Prod.fst = chosP p n0) (hel : p.enums.length = n0) (hsl : p.structs.length = n1)
    (hi : i < n1) (h16 : n1 ≤ 16) (h8 : n0 ≤ 8) (hbS : Below wS.heap.size wS w0) (hSR : wS.heap.size ≤ R) (hR : w0.heap[R]? = some (.cells #[rn, .slice none 0 0] 51 (0, 0))) (hc : FrD b i a n c0 R 0 c)
    (hQ : ∀ c' w' fv, FrD b i a n c0 R n c' → Below R w0 w' → w'.heap[R]? = some (.cells #[rn, fv] 51 (0, 0)) → w'.ownsRow (R + 1) 57 5 fv n (sfldsCells (fldsP p i l n)) → Q (.exit 6) c' w') :
    Code.wp Tryd.prog (Code.loop (madeLoop 3)) Q c w0 := by
  refine wp_loop (FldsInv w0 p l b i n c0 R a rn)
    (fun c' _ => n - (intOf (c'.tmps.getD 11 undef)).toNat) ⟨0, _, Nat.zero_le _, hc, Below.refl _ _, hR, World.ownsRow_nil _ _ _ _⟩ ?_
  clear hc hR
  rintro c wr ⟨k, fv, hk, hc, hb, hR, hrow⟩
  have hbb : Below wS.heap.size wS wr := hbS.trans (hb.mono hSR)
  have HSA := Lib.hid (hs.below hbb)
  have HKP := Lib.hid (hkp.below hbb (Nat.le_of_lt (blk_lt hs.blk)))
  have HQ := Lib.hid hQ
  have HB := Lib.hid hb
  have HR := Lib.hid hR
  have HROW := Lib.hid hrow
  have HES := Lib.hid hes
  have HEL := Lib.hid hel
  have HSL := Lib.hid hsl
  have hbR : b + 2 < R := Nat.lt_of_lt_of_le (blk_lt hs.blk) hSR
  have hRw : R < wr.heap.size := blk_lt hR
  have hbeq := hkp.hb
  obtain ⟨u, rfl⟩ := frd_lit hc
  by_cases hkl : k < n
  · obtain ⟨B, off, hpf⟩ := hF k hkl
    have HFX := Lib.hid (rfl : l.getD k noPF = l.getD k noPF)
    have HSN := Lib.hid (fldsP_succ p i l k)
    generalize l.getD k noPF = f at *
    have HPF := Lib.hid hpf
    obtain ⟨rfl, hB, x0, x1, x2, x3, x4, l0, l1, l2, l3, l4⟩ := hpf
    have y0 := (HKP.out.bel.cell (p := ⟨B, off + k * 5, none⟩) (by show B < b; omega)).trans x0
    have y1 := (HKP.out.bel.cell (p := ⟨B, off + k * 5 + 1, none⟩) (by show B < b; omega)).trans x1
    have hBb : B < b := by omega
    have HBEQ := Lib.hid hbeq
    clear hc hQ hb hR hrow hes hel hsl hbb hs hkp hF x0 x1 x2 x3 x4 l2 l3 hbS hB hbeq
    have m0 : (f.kind : Int).tmod 13 = ((f.kind % 13 : Nat) : Int) := by rw [Int.tmod_eq_emod_of_nonneg (by omega)]; omega
    have m1 : (f.lists : Int).tmod 4 = ((f.lists % 4 : Nat) : Int) := by rw [Int.tmod_eq_emod_of_nonneg (by omega)]; omega
    have hk13 : f.kind % 13 < 13 := by omega
    have hl4 : f.lists % 4 < 4 := by omega
    obtain ⟨kq, hkq⟩ : ∃ kq, f.kind % 13 = kq := ⟨_, rfl⟩
    obtain ⟨lq, hlq⟩ : ∃ lq, f.lists % 4 = lq := ⟨_, rfl⟩
    rw [hkq] at m0 hk13
    rw [hlq] at m1 hl4
    have HKQ := Lib.hid hkq
    have HLQ := Lib.hid hlq
    clear hkq hlq
    have v0 := u8_in (kq : Int) (by omega) (by omega)
    have v1 := u8_in ((kq : Int) + 1) (by omega) (by omega)
    have v2 := u8_in (lq : Int) (by omega) (by omega)
    have v3 := IntWalk.i64_in (lq : Int) (by omega)
    have hki : (k : Int) < n := by omega
    conv => arg 2; whnf
    go_upto_region 23 with (fail)
    go_region_held3 (fun w' => w'.cell? ⟨B, off + k * 5, none⟩ = some (.int .u8 (f.kind : Nat)) ∧ w'.cell? ⟨B, off + k * 5 + 1, none⟩ = some (.int .u8 (f.lists : Nat))) (first | assumption | go_keep) (first | fail)
    all_goals
      simp only [Exit.then]
      apply_assumption
      have hbt : Below wr.heap.size wr (wr.alloc (.cells #[.int .u8 ((kq : Int) + 1), .int .i64 0, .int .i64 lq] 55)).drew := ((Below.refl _ _).alloc (Nat.le_refl _) _).drew
      have hty : MTyAt (wr.alloc (.cells #[.int .u8 ((kq : Int) + 1), .int .i64 0, .int .i64 lq] 55)).drew wr.heap.size (f.kind % 13 + 1) 0 (f.lists % 4) := by
        rw [HKQ.out, HLQ.out]
        exact heap_alloc_new wr _
      generalize (wr.alloc (.cells #[.int .u8 ((kq : Int) + 1), .int .i64 0, .int .i64 lq] 55)).drew = W1 at *
      have hs1 := HSA.out.below hbt
      have hk1 := HKP.out.below hbt (by omega)
      obtain ⟨eva, evc, hevf⟩ := ownsRow_form hs1.rows.enums
      have hesl : es.length = n0 := by have := congrArg List.length HES.out; rw [chosP_length] at this; simpa using this
      rw [hesl] at hevf
      subst hevf
      refine kinds_wp (a0 := a0) (c1 := c1) ⟨rfl, rfl, rfl, rfl, rfl, rfl, rfl, rfl, rfl, rfl, rfl⟩ ⟨HPF.out, by rw [← HBEQ.out]; exact hk1.bel, HBEQ.out, by omega, (blk_cell hs1.blk 1).trans rfl, (blk_cell hk1.box 1).trans rfl, (blk_cell hk1.box 3).trans rfl, HEL.out, HSL.out, hi, h16, h8, hkl, hn⟩ hty ?_
      intro c2 W2 G hf2 hTG hbel hty2 hfl
      have hT : wr.heap.size < W1.heap.size := blk_lt hty
      have HS1 := Lib.hid hs1
      have hs2 : SchAt (b + 2) W2 ss es sv (.slice eva n0 evc) rt := HSA.out.below (hbt.trans hbel)
      have hb2 : Below wr.heap.size wr W2 := hbt.trans hbel
      have hR2 := blk_below HR.out hb2 (by omega)
      have hrow2 := row_keep hb2 HROW.out
      refine dflt_wp (w := w) (p := p) (fv := fv) (rn := rn) (xs := sfldsCells (fldsP p i l k)) hf2 HPF.out (by rw [← HBEQ.out]; exact (HKP.out.below hb2 (by omega)).bel) hkl hn hty2 (by have := (kindP_le p i f).2; omega) hfl hTG hRw hbR (by omega) hs2.blk (fun h => nums_of hs2.rows HES.out HEL.out l4 h) hR2 hrow2 (fun g hg => (ownsRow_lt HROW.out g hg).2) ?_
      intro c3 W4 fv' h1 h2 h3 h4
      have HF1 := Lib.hid h1
      have HB4 := Lib.hid ((HB.out.trans (hb2.mono (Nat.le_of_lt hRw))).trans h2)
      have HR4 := Lib.hid h3
      have HROW4 := Lib.hid h4
      obtain ⟨u3, rfl⟩ := frd_lit h1
      clear h1 h2 h3 h4 hR2 hrow2 hs2 hb2 hf2 hbel hty2 hfl hs1 hk1 hbt hty
      simp only [Exit.inBlock, Exit.then]
      apply_assumption
      go_wp2
      refine ⟨⟨k + 1, fv', by omega, ⟨rfl, rfl, rfl, rfl, rfl, rfl, rfl, rfl, rfl, rfl⟩, HB4.out, HR4.out, ?_⟩, ?_⟩
      · rw [HSN.out, sfldsCells_snoc]
        exact HROW4.out
      · show n - (intOf (.int .i64 ((k : Int) + 1))).toNat < n - (intOf (.int .i64 (k : Int))).toNat
        simp [intOf]; omega
  · obtain rfl : k = n := by omega
    clear hc hQ hb hR hrow hes hel hsl hbb hs hkp hF hbS hbeq
    conv => arg 2; whnf
    go_wp2
    exact HQ.out _ _ _ ⟨rfl, rfl, rfl, rfl, rfl, rfl, rfl, rfl, rfl, rfl⟩ HB.out HR.out HROW.out
end Go.Proofs.YtjeoekggdohhiaaDoor
