/-
  The loops of LayoutApart's closure. Conditions: those that each theorem names.
-/
import Derived.Test.YtdlfndjgncdgfaaDoorApStep
import Derived.Deep.AppendLies
namespace Go.Proofs.YtdlfndjgncdgfaaDoor
open Go.ChangeShapes Go.WideShapes Go.ChangeAt Go.RowKit Go.Shelf

set_option maxRecDepth 100000 in
set_option maxHeartbeats 8000000 in
theorem ap_thloop {Q : Exit → Act → World → Prop} {c : Act} {w0 : World} {M R X Y n : Nat} {mask : Int} (hc : ApA M R X Y (.slice none 0 0) n 0 c) (hm : w0.cell? ⟨M, 0, none⟩ = some (.int .u32 mask)) (hn : n ≤ 16)
    (hQ : ∀ c' w' th tv, ApA M R X Y tv n n c' → Below w0.heap.size w0 w' → th.length = n → w'.ownsRow w0.heap.size 4 1 tv th.length (boolCells th) → Q (.exit 0) c' w') :
    Code.wp Tryd.prog (Code.loop (loopsAp 0)) Q c w0 := by
  refine wp_loop (fun c' w' => ∃ (th : List Bool) (tv : Value), th.length ≤ n ∧ ApA M R X Y tv n th.length c' ∧ Below w0.heap.size w0 w' ∧ w'.ownsRow w0.heap.size 4 1 tv th.length (boolCells th))
    (fun c' _ => n - (intOf (c'.tmps.getD 29 undef)).toNat) ⟨[], _, Nat.zero_le _, hc, Below.refl _ _, World.ownsRow_nil _ _ _ _⟩ ?_
  clear hc
  rintro c wr ⟨th, tv, hk, hc, hb, hth⟩
  have HQ := Lib.hid hQ
  have HB := Lib.hid hb
  have HTH := Lib.hid hth
  obtain ⟨ta, tc, rfl⟩ := ownsRow_form hth
  have m0 := cell_old hb hm
  obtain ⟨u, rfl⟩ := hc.lit
  obtain ⟨i0, hi0, hzz0, hzz1, hzz2⟩ := info_parts bool_infoA
  have I1 := Lib.hid hi0
  have I2 := Lib.hid hzz0
  have I3 := Lib.hid hzz1
  have I4 := Lib.hid hzz2
  clear hc hQ hb hth hi0 hzz0 hzz1 hzz2 hm
  conv => arg 2; whnf
  by_cases hkl : th.length < n
  · have hki : (th.length : Int) < n := by omega
    have hal : Below wr.heap.size wr (wr.alloc (.cells #[.bool (bits BinOp.and .u32 (mask / 2 ^ th.length) 1 == 1)] 4)) := (Below.refl _ _).alloc (Nat.le_refl _) _
    have HBA := Lib.hid (HB.out.trans (hal.mono HB.out.size))
    have HBN := Lib.hid (heap_alloc_new wr (.cells #[.bool (bits BinOp.and .u32 (mask / 2 ^ th.length) 1 == 1)] 4))
    have HUA := Lib.hid (row_keep hal HTH.out)
    have hs0 : w0.heap.size ≤ wr.heap.size := HB.out.size
    clear hal
    go_wp2_with (at_builtin; refine wpList_append_own _ rfl (.tmp 32) (.tmp 38) 43 rfl w0.heap.size 4 i0 _ 1 1 Tryd.underlying43 I1.out I2.out I3.out I4.out rfl (by decide) (.slice ta th.length tc) th.length (boolCells th) rfl HUA.out _ 1 1 [.bool (bits BinOp.and .u32 (mask / 2 ^ th.length) 1 == 1)] rfl rfl (World.news_of_block HBN.out) (by intro u hu; simp at hu; subst hu; rfl) (by unfold maxLen; omega) (by omega) (by rw [World.size_alloc]; omega) ?_; intro v4 W8 hown4 hg4 hx; clear hx; obtain ⟨a4, e4, rfl⟩ := ownsRow_form hown4; have hb8 : Below w0.heap.size w0 W8 := HBA.out.grown hg4 (by rw [World.size_alloc]; omega) (fun k hk => (ownsRow_lt HTH.out k hk).1); have HB8 := Lib.hid hb8; have HTH8 := Lib.hid hown4; clear hb8 hown4 hg4)
    refine ⟨⟨th ++ [(bits BinOp.and .u32 (mask / 2 ^ th.length) 1 == 1)], _, by rw [List.length_append]; simp; omega, ⟨rfl, rfl, rfl, rfl, rfl, rfl, rfl, rfl, by rw [List.length_append]; rfl⟩, HB8.out, by rw [List.length_append, boolCells_snoc]; exact HTH8.out⟩, ?_⟩
    show n - (intOf (.int .i64 ((th.length : Int) + 1))).toNat < n - (intOf (.int .i64 (th.length : Int))).toNat
    simp [intOf]; omega
  · obtain rfl : th.length = n := by omega
    clear hkl
    go_wp2
    exact HQ.out _ _ th _ ⟨rfl, rfl, rfl, rfl, rfl, rfl, rfl, rfl, rfl⟩ HB.out rfl HTH.out
set_option maxRecDepth 100000 in
set_option maxHeartbeats 16000000 in
theorem ap_fieldloop {Q : Exit → Act → World → Prop} {c : Act} {w0 w9 : World} {fs : List SFld} {th : List Bool} {X Y Z xg xc yg yc zg zc tg tc gb gy gr gp nb ny nr np fg fc fbase : Nat}
    (hx : ApCtx w9 fs th X Y Z xg xc yg yc zg zc tg tc) (hd : ApDim fs th gb gy gr gp nb ny nr np) (hrow : w9.ownsRow fbase 53 5 (.slice (some ⟨fg, 0, none⟩) fs.length fc) fs.length (sfldsCells fs))
    (hc : ApL X Y Z (.slice (some ⟨tg, 0, none⟩) fs.length tc) (.slice (some ⟨gb, 0, none⟩) nb nb) (.slice (some ⟨gy, 0, none⟩) ny ny) (.slice (some ⟨gr, 0, none⟩) nr nr) (.slice (some ⟨gp, 0, none⟩) np np) (.slice (some ⟨fg, 0, none⟩) fs.length fc) fs.length 0 c)
    {lb0 ly0 lr0 lp0 : List Bool} (hs0 : ApSt w9 fs th gb gy gr gp nb ny nr np 0 0 w0 lb0 ly0 lr0 lp0)
    (hQ : ∀ c' w' lb ly lr lp, ApL X Y Z (.slice (some ⟨tg, 0, none⟩) fs.length tc) (.slice (some ⟨gb, 0, none⟩) nb nb) (.slice (some ⟨gy, 0, none⟩) ny ny) (.slice (some ⟨gr, 0, none⟩) nr nr) (.slice (some ⟨gp, 0, none⟩) np np) (.slice (some ⟨fg, 0, none⟩) fs.length fc) fs.length fs.length c' →
      ApSt w9 fs th gb gy gr gp nb ny nr np fs.length fs.length w' lb ly lr lp → Q (.exit 2) c' w') :
    Code.wp Tryd.prog (Code.loop (loopsAp 1)) Q c w0 := by
  refine wp_loop (fun c' w' => ∃ (k : Nat) (lb ly lr lp : List Bool), k ≤ fs.length ∧ ApL X Y Z (.slice (some ⟨tg, 0, none⟩) fs.length tc) (.slice (some ⟨gb, 0, none⟩) nb nb) (.slice (some ⟨gy, 0, none⟩) ny ny) (.slice (some ⟨gr, 0, none⟩) nr nr) (.slice (some ⟨gp, 0, none⟩) np np) (.slice (some ⟨fg, 0, none⟩) fs.length fc) fs.length k c' ∧ ApSt w9 fs th gb gy gr gp nb ny nr np k k w' lb ly lr lp)
    (fun c' _ => fs.length - (intOf (c'.tmps.getD 60 undef)).toNat) ⟨0, _, _, _, _, Nat.zero_le _, hc, hs0⟩ ?_
  clear hc hs0
  rintro c wr ⟨k, lb, ly, lr, lp, hk, hc, hs⟩
  have HQ := Lib.hid hQ
  have HX := Lib.hid hx
  have HD := Lib.hid hd
  have HS := Lib.hid hs
  have HROW := Lib.hid hrow
  obtain ⟨u, rfl⟩ := hc.lit
  clear hc hQ hx hd hs hrow
  conv => arg 2; whnf
  by_cases hkl : k < fs.length
  · have hki : (k : Int) < fs.length := by omega
    have hki0 : (0 : Int) ≤ (k : Int) := by omega
    have h16 := HX.out.n16
    obtain ⟨g, cc, hv, hcc, hg, hcell⟩ := row_el sfldCells 5 (fun _ => rfl) (row_keep HS.out.below HROW.out) k hkl
    obtain ⟨e1, rfl⟩ := slice_inj hv
    injection e1 with e1
    injection e1 with e1
    subst e1
    obtain ⟨fn, fk, fr, fl, fd, hfe⟩ : ∃ fn fk fr fl fd, fs[k] = (⟨fn, fk, fr, fl, fd⟩ : SFld) := ⟨_, _, _, _, _, rfl⟩
    have hkd := HX.out.kinds fs[k] (List.getElem_mem hkl)
    have hfa : fldAt fs k = ⟨fn, fk, fr, fl, fd⟩ := by rw [← hfe]; unfold fldAt; rw [List.getD, List.getElem?_eq_getElem hkl, Option.getD_some]
    rw [hfe] at hcell hkd
    have x0 : wr.cell? ⟨fg, k * 5, none⟩ = some (.string fn) := hcell 0 (by omega)
    have x1 : wr.cell? ⟨fg, k * 5 + 1, none⟩ = some (.int .u8 fk) := hcell 1 (by omega)
    have x2 : wr.cell? ⟨fg, k * 5 + 2, none⟩ = some (.int .i64 fr) := hcell 2 (by omega)
    have x3 : wr.cell? ⟨fg, k * 5 + 3, none⟩ = some (.int .i64 fl) := hcell 3 (by omega)
    have x4 : wr.cell? ⟨fg, k * 5 + 4, none⟩ = some (.int .u64 fd) := hcell 4 (by omega)
    have HFA := Lib.hid hfa
    simp only at hkd
    clear hcell hfe hfa
    go_upto_region 14 with (fail)
    have hba : Below wr.heap.size wr (wr.alloc (.cells #[.string fn, .int .u8 fk, .int .i64 fr, .int .i64 fl, .int .u64 fd] 53)) := (Below.refl _ _).alloc (Nat.le_refl _) _
    have HS1 := Lib.hid (HS.out.step hba)
    have HF := Lib.hid (show FAt wr.heap.size fn fk fr fl fd (wr.alloc (.cells #[.string fn, .int .u8 fk, .int .i64 fr, .int .i64 fl, .int .u64 fd] 53)) from heap_alloc_new wr _)
    clear x0 x1 x2 x3 x4 hba
    generalize wr.alloc (.cells #[.string fn, .int .u8 fk, .int .i64 fr, .int .i64 fl, .int .u64 fd] 53) = W1 at *
    clear HS
    generalize wr.heap.size = F at *
    obtain ⟨_, y0, y1, y2, y3, y4, _⟩ := blk5 HF.out
    go_wp2_with fail
    refine (lbits_any fk W1).mono ?_
    rintro e W2 ⟨rfl, rfl⟩
    obtain ⟨bts, hbts⟩ : ∃ b, bitsK (fk : Int) = b := ⟨_, rfl⟩
    have HBT := Lib.hid hbts.symm
    have hcase : (isNumP fk fl = true ∧ fl = 0 ∧ 0 < bts) ∨ (isNumP fk fl = false ∧ fl = 0 ∧ bts = 0) ∨ (isNumP fk fl = false ∧ ¬ fl = 0) := by
      have hb := kSize_bd (fk : Int)
      by_cases hl : fl = 0
      · by_cases hz : 0 < kSize (fk : Int)
        · refine .inl ⟨by unfold isNumP; rw [decide_eq_true hl, decide_eq_true hz]; rfl, hl, ?_⟩
          rw [← hbts]
          unfold bitsK
          split
          · omega
          · split <;> omega
        · refine .inr (.inl ⟨by unfold isNumP; rw [decide_eq_false hz, Bool.and_false], hl, ?_⟩)
          rw [← hbts]
          unfold bitsK
          have h1 : ¬ (fk : Int) = 1 := fun e => by rw [e] at hz; exact hz (by decide)
          have h10 : ¬ (fk : Int) = 10 := fun e => by rw [e] at hz; exact hz (by decide)
          rw [if_neg h1, if_neg h10]
          omega
      · exact .inr (.inr ⟨by unfold isNumP; rw [decide_eq_false hl, Bool.false_and], hl⟩)
    rw [hbts]
    clear hbts
    rcases hcase with ⟨hnum, hl0, hb0⟩ | ⟨hnum, hl0, hb0⟩ | ⟨hnum, hl0⟩
    · have HN := Lib.hid hnum
      subst hl0
      clear hnum
      go_upto_region 16 with (fail)
      refine ap_take16 HX.out HD.out hkl HFA.out HN.out HBT.out ⟨rfl, rfl, rfl, rfl, rfl, rfl, rfl, rfl, rfl, rfl, rfl, rfl, rfl, rfl, rfl, rfl, rfl, rfl⟩ HS1.out HF.out ?_
      intro c' w' lb' lr' lp' hc' hs' hF'
      have HS2 := Lib.hid hs'
      have HF2 := Lib.hid hF'
      obtain ⟨u', rfl⟩ := hc'.lit
      clear hc' hs' hF' y0 y1 y2 y3 y4
      apply_assumption
      go_upto_region 18 with (fail)
      refine ap_take18 HX.out HD.out hkl HFA.out ⟨rfl, rfl, rfl, rfl, rfl, rfl, rfl, rfl, rfl, rfl, rfl, rfl, rfl, rfl, rfl, rfl, rfl, rfl⟩ HS2.out HF2.out ?_
      intro c2 w2 ly' hc2 hs2
      have HS3 := Lib.hid hs2
      obtain ⟨u2, rfl⟩ := hc2.lit
      clear hc2 hs2
      apply_assumption
      go_wp2
      refine ⟨⟨k + 1, _, _, _, _, by omega, ⟨rfl, rfl, rfl, rfl, rfl, rfl, rfl, rfl, rfl, rfl, rfl, rfl, rfl, rfl⟩, HS3.out⟩, ?_⟩
      show fs.length - (intOf (.int .i64 ((k : Int) + 1))).toNat < fs.length - (intOf (.int .i64 (k : Int))).toNat
      simp [intOf]; omega
    · have HN := Lib.hid hnum
      subst hl0
      clear hnum
      go_upto_region 16 with (fail)
      refine ap_take16 HX.out HD.out hkl HFA.out HN.out (hb0.symm ▸ HBT.out) ⟨rfl, rfl, rfl, rfl, rfl, rfl, rfl, rfl, rfl, rfl, rfl, rfl, rfl, rfl, rfl, rfl, rfl, rfl⟩ HS1.out HF.out ?_
      intro c' w' lb' lr' lp' hc' hs' hF'
      have HS2 := Lib.hid hs'
      have HF2 := Lib.hid hF'
      obtain ⟨u', rfl⟩ := hc'.lit
      clear hc' hs' hF' y0 y1 y2 y3 y4
      apply_assumption
      go_upto_region 18 with (fail)
      refine ap_take18 HX.out HD.out hkl HFA.out ⟨rfl, rfl, rfl, rfl, rfl, rfl, rfl, rfl, rfl, rfl, rfl, rfl, rfl, rfl, rfl, rfl, rfl, rfl⟩ HS2.out HF2.out ?_
      intro c2 w2 ly' hc2 hs2
      have HS3 := Lib.hid hs2
      obtain ⟨u2, rfl⟩ := hc2.lit
      clear hc2 hs2
      apply_assumption
      go_wp2
      refine ⟨⟨k + 1, _, _, _, _, by omega, ⟨rfl, rfl, rfl, rfl, rfl, rfl, rfl, rfl, rfl, rfl, rfl, rfl, rfl, rfl⟩, HS3.out⟩, ?_⟩
      show fs.length - (intOf (.int .i64 ((k : Int) + 1))).toNat < fs.length - (intOf (.int .i64 (k : Int))).toNat
      simp [intOf]; omega
    · have HN := Lib.hid hnum
      have hl1 : ((fl : Int) == 0) = false := by simp; omega
      clear hnum
      go_upto_region 16 with (fail)
      refine ap_take16 HX.out HD.out hkl HFA.out HN.out HBT.out ⟨rfl, rfl, rfl, rfl, rfl, rfl, rfl, rfl, rfl, rfl, rfl, rfl, rfl, rfl, rfl, rfl, rfl, rfl⟩ HS1.out HF.out ?_
      intro c' w' lb' lr' lp' hc' hs' hF'
      have HS2 := Lib.hid hs'
      have HF2 := Lib.hid hF'
      obtain ⟨u', rfl⟩ := hc'.lit
      clear hc' hs' hF' y0 y1 y2 y3 y4
      apply_assumption
      go_upto_region 18 with (fail)
      refine ap_take18 HX.out HD.out hkl HFA.out ⟨rfl, rfl, rfl, rfl, rfl, rfl, rfl, rfl, rfl, rfl, rfl, rfl, rfl, rfl, rfl, rfl, rfl, rfl⟩ HS2.out HF2.out ?_
      intro c2 w2 ly' hc2 hs2
      have HS3 := Lib.hid hs2
      obtain ⟨u2, rfl⟩ := hc2.lit
      clear hc2 hs2
      apply_assumption
      go_wp2
      refine ⟨⟨k + 1, _, _, _, _, by omega, ⟨rfl, rfl, rfl, rfl, rfl, rfl, rfl, rfl, rfl, rfl, rfl, rfl, rfl, rfl⟩, HS3.out⟩, ?_⟩
      show fs.length - (intOf (.int .i64 ((k : Int) + 1))).toNat < fs.length - (intOf (.int .i64 (k : Int))).toNat
      simp [intOf]; omega
  · obtain rfl : k = fs.length := by omega
    clear hkl
    go_wp2
    exact HQ.out _ _ _ _ _ _ ⟨rfl, rfl, rfl, rfl, rfl, rfl, rfl, rfl, rfl, rfl, rfl, rfl, rfl, rfl⟩ HS.out
set_option maxRecDepth 100000 in
set_option maxHeartbeats 8000000 in
theorem ap_endloop {Q : Exit → Act → World → Prop} {c : Act} {w0 : World} {g cap base : Nat} {l : List Bool} (hc : ApE (.slice (some ⟨g, 0, none⟩) l.length cap) l.length 0 c) (hrow : w0.ownsRow base 4 1 (.slice (some ⟨g, 0, none⟩) l.length cap) l.length (boolCells l)) (hall : ∀ k, k < l.length → l.getD k false = true)
    (hQ : ∀ c', ApE (.slice (some ⟨g, 0, none⟩) l.length cap) l.length l.length c' → Q (.exit 4) c' w0) : Code.wp Tryd.prog (Code.loop (loopsAp 2)) Q c w0 := by
  refine wp_loop (fun c' w' => ∃ k : Nat, k ≤ l.length ∧ ApE (.slice (some ⟨g, 0, none⟩) l.length cap) l.length k c' ∧ w' = w0) (fun c' _ => l.length - (intOf (c'.tmps.getD 169 undef)).toNat) ⟨0, Nat.zero_le _, hc, rfl⟩ ?_
  clear hc
  rintro c wr ⟨k, hk, hc, rfl⟩
  have HQ := Lib.hid hQ
  have HROW := Lib.hid hrow
  have HALL := Lib.hid hall
  have hfew := row_few hrow
  obtain ⟨u, rfl⟩ := hc.lit
  clear hc hQ hrow hall
  conv => arg 2; whnf
  by_cases hkl : k < l.length
  · have hki : (k : Int) < l.length := by omega
    have hki0 : (0 : Int) ≤ (k : Int) := by omega
    have x0 := bools_at HROW.out k hkl
    rw [HALL.out k hkl] at x0
    go_wp2
    refine ⟨⟨k + 1, by omega, ⟨rfl, rfl, rfl, rfl, rfl⟩, trivial⟩, ?_⟩
    show l.length - (intOf (.int .i64 ((k : Int) + 1))).toNat < l.length - (intOf (.int .i64 (k : Int))).toNat
    simp [intOf]; omega
  · obtain rfl : k = l.length := by omega
    clear hkl
    go_wp2
    exact HQ.out _ ⟨rfl, rfl, rfl, rfl, rfl⟩
end Go.Proofs.YtdlfndjgncdgfaaDoor
