/-
  The document's Check: the loop over all names. Conditions: those that each theorem names; the library's tables hold what the row lists.
-/
import Derived.Test.YtdlfndjgncdgfaaGreatDoorPkS38
import Derived.Test.YtdlfndjgncdgfaaGreatDoorPkS43
namespace Go.Proofs.YtdlfndjgncdgfaaGreatDoor
open Go.ChangeShapes Go.WideShapes Go.ChangeAt Go.RowKit Go.Shelf

set_option maxRecDepth 100000 in
set_option maxHeartbeats 8000000 in
theorem rcb2_wp {Q : Exit → Act → World → Prop} {c : Act} {w0 : World} {q n e i S sc ec base rb fc : Nat} {a sa ea fa : Option Addr} {ss : List (CRec × Value)} {es : List (SCho × Value)} {rt : Int} {nm : Value} {l : List CFld} (hc : RcB2 q a n e i S none 0 0 0 c)
    (hq : w0.heap[q]? = some (.cells #[.slice sa ss.length sc, .slice ea es.length ec, .int .i64 rt] 30 (0, 0))) (hC : CRows base w0 ss es (.slice sa ss.length sc) (.slice ea es.length ec)) (hT : Tabs w0)
    (hS : w0.heap[S]? = some (.cells #[nm, .slice fa l.length fc] 54 (0, 0))) (hrow : w0.ownsRow rb 51 5 (.slice fa l.length fc) l.length (cfldsCells l)) (hfit : ∀ f ∈ l, FldFit f) (h16 : l.length ≤ 16)
    (hQ : ∀ c' w' b f, l.all (rcFld ss.length (es.map Prod.fst)) = true → RcB2 q a n e i S b l.length f l.length c' → Below w0.heap.size w0 w' → w'.ownsRow w0.heap.size 9 1 (.slice b l.length f) l.length (strsCells (l.map CFld.name)) → Q (.exit 6) c' w')
    (hB : ∀ c' w', l.all (rcFld ss.length (es.map Prod.fst)) = false → RcR false c' → Below w0.heap.size w0 w' → Q .ret c' w') :
    Code.wp Tryz.prog (Code.loop (loopsRc 3)) Q c w0 := by
  refine wp_loop (fun c' w' => ∃ (k f : Nat) (b : Option Addr), k ≤ l.length ∧ RcB2 q a n e i S b k f k c' ∧ Below w0.heap.size w0 w' ∧ w'.ownsRow w0.heap.size 9 1 (.slice b k f) k (strsCells ((l.take k).map CFld.name)) ∧ (l.take k).all (rcFld ss.length (es.map Prod.fst)) = true)
    (fun c' _ => l.length - (intOf (c'.tmps.getD 10 undef)).toNat) ⟨0, 0, none, Nat.zero_le _, hc, Below.refl _ _, World.ownsRow_nil _ _ _ _, rfl⟩ ?_
  clear hc
  rintro c wr ⟨k, f, b, hk, hc, hb, hU, ha⟩
  have HQ := Lib.hid hQ
  have HBAD := Lib.hid hB
  have HB := Lib.hid hb
  have HK0 := Lib.hid hq
  have HS := Lib.hid (blk_below hS hb (blk_lt hS))
  have HC0 := Lib.hid hC
  have HT := Lib.hid hT
  have HROW := Lib.hid hrow
  have HU := Lib.hid hU
  have HFIT := Lib.hid hfit
  have HA := Lib.hid ha
  have hsz := hb.size
  have hSl : S < w0.heap.size := blk_lt hS
  have hfew := row_few hrow
  obtain ⟨u, rfl⟩ := hc.lit
  obtain ⟨_, p0, p1, _⟩ := blk2 HS.out
  clear hc hQ hB hb hq hC hT hS hrow hfit hU ha
  conv => arg 2; whnf
  by_cases hlt : k < l.length
  · obtain ⟨g, cc, hv, hcc, hg, hcell⟩ := row_el cfldCells 5 (fun _ => rfl) (row_keep HB.out HROW.out) k hlt
    obtain ⟨rfl, rfl⟩ := slice_inj hv
    have x0 : wr.cell? ⟨g, k * 5, none⟩ = some (.string l[k].name) := hcell 0 (by omega)
    have x1 : wr.cell? ⟨g, k * 5 + 1, none⟩ = some (.int .u8 (l[k].kind : Nat)) := hcell 1 (by omega)
    have x2 : wr.cell? ⟨g, k * 5 + 2, none⟩ = some (.int .i64 l[k].ref) := hcell 2 (by omega)
    have x3 : wr.cell? ⟨g, k * 5 + 3, none⟩ = some (.int .i64 l[k].lists) := hcell 3 (by omega)
    have x4 : wr.cell? ⟨g, k * 5 + 4, none⟩ = some (.int .u64 (l[k].dflt : Nat)) := hcell 4 (by omega)
    have HTK := Lib.hid (take_snoc_map CFld.name l k hlt)
    have HT1 := Lib.hid (all_take (rcFld ss.length (es.map Prod.fst)) l k hlt)
    have HT2 := Lib.hid (all_false (rcFld ss.length (es.map Prod.fst)) l k hlt)
    have HFI := Lib.hid (HFIT.out l[k] (List.getElem_mem hlt))
    generalize l[k] = fl at *
    obtain ⟨s, kd, rf, ls, d⟩ := fl
    simp only at x0 x1 x2 x3 x4
    have HN1 : Hid (rcFld ss.length (es.map Prod.fst) ⟨s, kd, rf, ls, d⟩ = (decide (1 ≤ s.size ∧ s.size ≤ 40) && (aloneB (quoteB s) 3 s && tdB ss.length (es.map Prod.fst) kd rf ls d))) := Lib.hid rfl
    have HTKS : Hid ((l.take (k + 1)).map CFld.name = (l.take k).map CFld.name ++ [s]) := Lib.hid HTK.out
    have HQT : Hid ((⟨#[34]⟩ : ByteArray) ++ s ++ ⟨#[34]⟩ = quoteB s) := Lib.hid rfl
    have hii : (k : Int) < l.length := by omega
    clear hv hcell HTK
    have hbt : Below wr.heap.size wr (wr.alloc (.cells #[.string s, .int .u8 (kd : Nat), .int .i64 rf, .int .i64 ls, .int .u64 (d : Nat)] 51)) := (Below.refl _ _).alloc (Nat.le_refl _) _
    have HBT := Lib.hid hbt
    have HE := Lib.hid (heap_alloc_new wr (.cells #[.string s, .int .u8 (kd : Nat), .int .i64 rf, .int .i64 ls, .int .u64 (d : Nat)] 51))
    clear hbt
    go_upto_region 28 with (fail)
    generalize wr.alloc (.cells #[.string s, .int .u8 (kd : Nat), .int .i64 rf, .int .i64 ls, .int .u64 (d : Nat)] 51) = Wt at *
    clear x0 x1 x2 x3 x4 p0 p1
    obtain ⟨_, y0, y1, y2, y3, y4, _⟩ := blk5c HE.out
    have hnt : wr.heap.size < Wt.heap.size := blk_lt HE.out
    obtain ⟨i0, hi0, hzz0, hzz1, hzz2⟩ := info_parts str_info
    have I1 := Lib.hid hi0
    have I2 := Lib.hid hzz0
    have I3 := Lib.hid hzz1
    have I4 := Lib.hid hzz2
    have HBN := Lib.hid (heap_alloc_new Wt (.cells #[.string s] 9))
    have HBA := Lib.hid (HBT.out.trans ((Below.refl Wt.heap.size Wt).alloc (Nat.le_refl _) (.cells #[.string s] 9) |>.mono HBT.out.size))
    have HUA := Lib.hid (row_keep HBA.out HU.out)
    clear hi0 hzz0 hzz1 hzz2
    go_upto_region 29 with (at_builtin; refine wpList_append_own _ rfl (.tmp 142) (.tmp 145) 55 rfl w0.heap.size 9 i0 _ 1 16 Tryz.underlying55 I1.out I2.out I3.out I4.out rfl (by decide) (.slice b k f) k (strsCells ((l.take k).map CFld.name)) rfl HUA.out _ 1 1 [.string s] rfl rfl (World.news_of_block HBN.out) (by intro u hu; simp at hu; subst hu; rfl) (by unfold maxLen; omega) (by omega) (by simp; omega) ?_; intro v4 W8 hown4 hg4 hx; clear hx; obtain ⟨a4, e4, rfl⟩ := ownsRow_form hown4; have s1 := row_app HB.out hsz HU.out HBA.out hg4; have s2 : W8.heap[wr.heap.size]? = some (.cells #[.string s, .int .u8 (kd : Nat), .int .i64 rf, .int .i64 ls, .int .u64 (d : Nat)] 51 (0, 0)) := (hg4.block wr.heap.size (by simp; omega) (fun e => by have := (ownsRow_lt HU.out _ e.symm).2; omega)).trans (blk_alloc HE.out _); have S1 := Lib.hid s1; have S2 := Lib.hid s2; have S3 := Lib.hid hown4; obtain ⟨_, b0, b1, b2, b3, b4, _⟩ := blk5c s2; clear s1 s2 hown4 hg4)
    clear y0 y1 y2 y3 y4 HBN
    by_cases hn1 : s.size < 1
    · have HF := Lib.hid (HT2.out (HN1.out.trans (by rw [decide_eq_false (by omega), Bool.false_and])))
      have g1 : (s.size : Int) < 1 := by omega
      clear HN1 HT1 HT2
      go_wp2
      exact HBAD.out _ _ HF.out ⟨rfl, rfl, rfl⟩ S1.out
    have g1 : ¬ (s.size : Int) < 1 := by omega
    by_cases hn2 : 40 < s.size
    · have HF := Lib.hid (HT2.out (HN1.out.trans (by rw [decide_eq_false (by omega), Bool.false_and])))
      have g2 : (40 : Int) < (s.size : Int) := by omega
      clear HN1 HT1 HT2
      go_wp2
      exact HBAD.out _ _ HF.out ⟨rfl, rfl, rfl⟩ S1.out
    have g2 : ¬ (40 : Int) < (s.size : Int) := by omega
    have HN2 := Lib.hid (HN1.out.trans (by rw [decide_eq_true (show 1 ≤ s.size ∧ s.size ≤ 40 by omega), Bool.true_and]))
    have hc1 : ¬ 9223372036854775807 < 1 + s.size := by omega
    have hc2 : ¬ 9223372036854775807 < 1 + s.size + 1 := by omega
    clear HN1
    go_wp2_with fail
    rw [HQT.out]
    refine (rone_any (quoteB s) 3 s W8 (HT.out.below (Nat.le_refl _) S1.out) (by rw [quote_size]; omega)).mono ?_
    rintro ee W9 ⟨rfl, hb9⟩
    have HE9 := Lib.hid (blk_below S2.out hb9 (blk_lt S2.out))
    have HB9 := Lib.hid (S1.out.trans (hb9.mono S1.out.size))
    have HU9 := Lib.hid (row_keep hb9 S3.out)
    clear hb9 b0 b1 b2 b3 b4
    obtain ⟨_, b0, b1, b2, b3, b4, _⟩ := blk5c HE9.out
    obtain ⟨_, p0, p1, p2, _⟩ := blk3 (blk_below HK0.out HB9.out (blk_lt HK0.out))
    cases hal : aloneB (quoteB s) 3 s
    · have HF := Lib.hid (HT2.out (HN2.out.trans (by rw [hal, Bool.false_and])))
      clear HN2 HT1 HT2 hal
      go_wp2
      exact HBAD.out _ _ HF.out ⟨rfl, rfl, rfl⟩ HB9.out
    have HN3 := Lib.hid (HN2.out.trans (by rw [hal, Bool.true_and]))
    clear HN2 hal
    go_wp2_with fail
    refine (rtyped_any W9 rt (HC0.out.below HB9.out) s kd rf ls d HFI.out.1 HFI.out.2.1).mono ?_
    rintro ee W10 ⟨rfl, hb10⟩
    have HB10 := Lib.hid (HB9.out.trans (hb10.mono HB9.out.size))
    have HU10 := Lib.hid (row_keep hb10 HU9.out)
    clear hb10 b0 b1 b2 b3 b4 p0 p1 p2
    cases htd : tdB ss.length (es.map Prod.fst) kd rf ls d
    · have HF := Lib.hid (HT2.out (HN3.out.trans htd))
      clear HN3 HT1 HT2 htd
      go_wp2
      exact HBAD.out _ _ HF.out ⟨rfl, rfl, rfl⟩ HB10.out
    · have HF := Lib.hid (show (l.take (k + 1)).all (rcFld ss.length (es.map Prod.fst)) = true by rw [HT1.out, HA.out]; exact HN3.out.trans htd)
      clear HN3 HT1 HT2 htd
      go_wp2
      refine ⟨⟨k + 1, e4, a4, by omega, ⟨rfl, rfl, rfl, rfl, rfl, rfl, rfl, rfl⟩, HB10.out, ?_, HF.out⟩, ?_⟩
      · rw [HTKS.out, strsCells_snoc]
        exact HU10.out
      · show l.length - (intOf (.int .i64 ((k : Int) + 1))).toNat < l.length - (intOf (.int .i64 (k : Int))).toNat
        simp [intOf]; omega
  · obtain rfl : k = l.length := by omega
    have HE := Lib.hid (show l.all (rcFld ss.length (es.map Prod.fst)) = true by have h := HA.out; rw [List.take_length] at h; exact h)
    have hu := HU.out
    rw [List.take_length] at hu
    have HU2 := Lib.hid hu
    clear hlt HA hu HU
    go_wp2
    exact HQ.out _ _ _ _ HE.out ⟨rfl, rfl, rfl, rfl, rfl, rfl, rfl, rfl⟩ HB.out HU2.out
end Go.Proofs.YtdlfndjgncdgfaaGreatDoor
namespace Go.Proofs.YtdlfndjgncdgfaaGreatDoor
open Go.ChangeShapes Go.WideShapes Go.ChangeAt Go.RowKit Go.Shelf

set_option maxRecDepth 100000 in
set_option maxHeartbeats 8000000 in
theorem rcb_wp {Q : Exit → Act → World → Prop} {c : Act} {wz w0 : World} {q sc ec base N0 e0 : Nat} {a0 sa ea : Option Addr} {ss : List (CRec × Value)} {es : List (SCho × Value)} {rt : Int} {H0 : List ByteArray} (hc : RcB q a0 N0 e0 0 c)
    (hq : wz.heap[q]? = some (.cells #[.slice sa ss.length sc, .slice ea es.length ec, .int .i64 rt] 30 (0, 0))) (hC : CRows base wz ss es (.slice sa ss.length sc) (.slice ea es.length ec)) (hT : Tabs wz) (h16 : ss.length ≤ 16) (hN0 : N0 ≤ 8)
    (hfit : ∀ p ∈ ss, ∀ f ∈ p.1.fields, FldFit f) (hbz : Below wz.heap.size wz w0) (hU0 : w0.ownsRow wz.heap.size 9 1 (.slice a0 N0 e0) N0 (strsCells H0))
    (hQ : ∀ c' w' a e, ss.all (fun p => rcRec ss.length (es.map Prod.fst) p.1) = true → RcB q a (ss.length + N0) e ss.length c' → Below wz.heap.size wz w' → w'.ownsRow wz.heap.size 9 1 (.slice a (ss.length + N0) e) (ss.length + N0) (strsCells (H0 ++ ss.map fun p => p.1.name)) → Q (.exit 4) c' w')
    (hB : ∀ c' w', ss.all (fun p => rcRec ss.length (es.map Prod.fst) p.1) = false → RcR false c' → Below wz.heap.size wz w' → Q .ret c' w') :
    Code.wp Tryz.prog (Code.loop (loopsRc 2)) Q c w0 := by
  refine wp_loop (fun c' w' => ∃ (i e : Nat) (a : Option Addr), i ≤ ss.length ∧ RcB q a (i + N0) e i c' ∧ Below wz.heap.size wz w' ∧ w'.ownsRow wz.heap.size 9 1 (.slice a (i + N0) e) (i + N0) (strsCells (H0 ++ (ss.take i).map fun p => p.1.name)) ∧ (ss.take i).all (fun p => rcRec ss.length (es.map Prod.fst) p.1) = true)
    (fun c' _ => ss.length - (intOf (c'.tmps.getD 7 undef)).toNat) ⟨0, e0, a0, Nat.zero_le _, by rw [Nat.zero_add]; exact hc, hbz, by rw [Nat.zero_add]; simpa using hU0, rfl⟩ ?_
  clear hc hbz hU0
  rintro c wr ⟨i, e, a, hi, hc, hb, hU, ha⟩
  have HQ := Lib.hid hQ
  have HBAD := Lib.hid hB
  have HB := Lib.hid hb
  have HK0 := Lib.hid hq
  have HC0 := Lib.hid hC
  have HT := Lib.hid hT
  have HU := Lib.hid hU
  have HFIT := Lib.hid hfit
  have HA := Lib.hid ha
  have hsz := hb.size
  have hql : q < wz.heap.size := blk_lt hq
  obtain ⟨u, rfl⟩ := hc.lit
  obtain ⟨_, p0, p1, p2, _⟩ := blk3 (blk_below hq hb hql)
  clear hc hQ hB hb hq hC hT hfit hU ha
  conv => arg 2; whnf
  by_cases hlt : i < ss.length
  · obtain ⟨g, cc, hv, hcc, hg, hcell⟩ := row_el crecCells 2 (fun _ => rfl) (row_keep HB.out HC0.out.structs) i hlt
    obtain ⟨rfl, rfl⟩ := slice_inj hv
    have hnm := HC0.out.fields _ (List.getElem_mem hlt)
    obtain ⟨na, nc, hnv⟩ := ownsRow_form hnm
    rw [hnv] at hnm
    have HN := Lib.hid hnm
    have hfn := row_few hnm
    have x0 : wr.cell? ⟨g, i * 2, none⟩ = some (.string ss[i].1.name) := hcell 0 (by omega)
    have x1 : wr.cell? ⟨g, i * 2 + 1, none⟩ = some (.slice na ss[i].1.fields.length nc) := by rw [← hnv]; exact hcell 1 (by omega)
    have HTK := Lib.hid (take_snoc_map (fun p : CRec × Value => p.1.name) ss i hlt)
    have HT1 := Lib.hid (all_take (fun p : CRec × Value => rcRec ss.length (es.map Prod.fst) p.1) ss i hlt)
    have HT2 := Lib.hid (all_false (fun p : CRec × Value => rcRec ss.length (es.map Prod.fst) p.1) ss i hlt)
    have HFI := Lib.hid (HFIT.out ss[i] (List.getElem_mem hlt))
    have HN1 : Hid (rcRec ss.length (es.map Prod.fst) ss[i].1 = (decide (1 ≤ ss[i].1.fields.length ∧ ss[i].1.fields.length ≤ 16) && (ss[i].1.fields.all (rcFld ss.length (es.map Prod.fst)) && decide (dup (ss[i].1.fields.map CFld.name) = none)))) := Lib.hid rfl
    generalize ss[i].1 = d at *
    obtain ⟨nm, l⟩ := d
    simp only at *
    have hii : (i : Int) < ss.length := by omega
    clear hv hcell hnm hnv
    have hbt : Below wr.heap.size wr (wr.alloc (.cells #[.string nm, .slice na l.length nc] 54)) := (Below.refl _ _).alloc (Nat.le_refl _) _
    have HBT := Lib.hid hbt
    have HE := Lib.hid (heap_alloc_new wr (.cells #[.string nm, .slice na l.length nc] 54))
    clear hbt
    go_upto_region 20 with (fail)
    generalize wr.alloc (.cells #[.string nm, .slice na l.length nc] 54) = Wt at *
    clear x0 x1 p0 p1 p2
    obtain ⟨_, y0, y1, _⟩ := blk2 HE.out
    have hnt : wr.heap.size < Wt.heap.size := blk_lt HE.out
    obtain ⟨i0, hi0, hzz0, hzz1, hzz2⟩ := info_parts str_info
    have I1 := Lib.hid hi0
    have I2 := Lib.hid hzz0
    have I3 := Lib.hid hzz1
    have I4 := Lib.hid hzz2
    have HBN := Lib.hid (heap_alloc_new Wt (.cells #[.string nm] 9))
    have HBA := Lib.hid (HBT.out.trans ((Below.refl Wt.heap.size Wt).alloc (Nat.le_refl _) (.cells #[.string nm] 9) |>.mono HBT.out.size))
    have HUA := Lib.hid (row_keep HBA.out HU.out)
    clear hi0 hzz0 hzz1 hzz2
    go_upto_region 22 with (at_builtin; refine wpList_append_own _ rfl (.tmp 115) (.tmp 118) 55 rfl wz.heap.size 9 i0 _ 1 16 Tryz.underlying55 I1.out I2.out I3.out I4.out rfl (by decide) (.slice a (i + N0) e) (i + N0) (strsCells (H0 ++ (ss.take i).map fun p => p.1.name)) rfl HUA.out _ 1 1 [.string nm] rfl rfl (World.news_of_block HBN.out) (by intro u hu; simp at hu; subst hu; rfl) (by unfold maxLen; omega) (by omega) (by simp; omega) ?_; intro v4 W8 hown4 hg4 hx; clear hx; obtain ⟨a4, e4, rfl⟩ := ownsRow_form hown4; have s1 := row_app HB.out hsz HU.out HBA.out hg4; have s2 : W8.heap[wr.heap.size]? = some (.cells #[.string nm, .slice na l.length nc] 54 (0, 0)) := (hg4.block wr.heap.size (by simp; omega) (fun e => by have := (ownsRow_lt HU.out _ e.symm).2; omega)).trans (blk_alloc HE.out _); have S1 := Lib.hid s1; have S2 := Lib.hid s2; have S3 := Lib.hid hown4; obtain ⟨_, b0, b1, _⟩ := blk2 s2; clear s1 s2 hown4 hg4)
    clear y0 y1 HBN
    by_cases hn1 : l.length < 1
    · have HF := Lib.hid (HT2.out (HN1.out.trans (by rw [decide_eq_false (by omega), Bool.false_and])))
      have g1 : (l.length : Int) < 1 := by omega
      clear HN1 HT1 HT2
      go_wp2
      exact HBAD.out _ _ HF.out ⟨rfl, rfl, rfl⟩ S1.out
    have g1 : ¬ (l.length : Int) < 1 := by omega
    by_cases hn2 : 16 < l.length
    · have HF := Lib.hid (HT2.out (HN1.out.trans (by rw [decide_eq_false (by omega), Bool.false_and])))
      have g2 : (16 : Int) < (l.length : Int) := by omega
      clear HN1 HT1 HT2
      go_wp2
      exact HBAD.out _ _ HF.out ⟨rfl, rfl, rfl⟩ S1.out
    have g2 : ¬ (16 : Int) < (l.length : Int) := by omega
    have HN2 := Lib.hid (HN1.out.trans (by rw [decide_eq_true (show 1 ≤ l.length ∧ l.length ≤ 16 by omega), Bool.true_and]))
    clear HN1
    go_wp2_with fail
    refine rcb2_wp ⟨rfl, rfl, rfl, rfl, rfl, rfl, rfl, rfl⟩ (blk_below HK0.out S1.out hql) (HC0.out.below S1.out) (HT.out.below (Nat.le_refl _) S1.out) S2.out (row_keep S1.out HN.out) HFI.out (by omega) ?_ ?_
    · intro c2 w2 lb lf hall hc2 hb2 hlab
      have HB2 := Lib.hid (S1.out.trans (hb2.mono S1.out.size))
      have HU2 := Lib.hid (row_keep hb2 S3.out)
      have HL2 := Lib.hid (show w2.ownsRow W8.heap.size 9 1 (.slice lb l.length lf) (l.map CFld.name).length (strsCells (l.map CFld.name)) by rw [List.length_map]; exact hlab)
      have HN3 := Lib.hid (HN2.out.trans (by rw [hall, Bool.true_and]))
      obtain ⟨u2, rfl⟩ := hc2.lit
      clear hc2 hb2 hall hlab b0 b1 HN2
      simp only [Exit.inBlock, Exit.then]
      apply_assumption
      go_wp2_with fail
      refine (runlike_any (l.map CFld.name) _ _ w2 HL2.out).mono ?_
      rintro ee W9 ⟨rfl, hb9⟩
      have HB9 := Lib.hid (HB2.out.trans (hb9.mono HB2.out.size))
      have HU9 := Lib.hid (row_keep hb9 HU2.out)
      clear hb9
      by_cases hd : dup (l.map CFld.name) = none
      rotate_left
      · have HF := Lib.hid (HT2.out (HN3.out.trans (decide_eq_false hd)))
        rw [decide_eq_false hd]
        clear HN3 HT1 HT2 hd
        go_wp2
        exact HBAD.out _ _ HF.out ⟨rfl, rfl, rfl⟩ HB9.out
      have HF := Lib.hid (show (ss.take (i + 1)).all (fun p => rcRec ss.length (es.map Prod.fst) p.1) = true by rw [HT1.out, HA.out]; exact HN3.out.trans (decide_eq_true hd))
      rw [decide_eq_true hd]
      clear HN3 HT1 HT2 hd
      go_wp2
      refine ⟨⟨i + 1, e4, a4, by omega, ?_, HB9.out, ?_, HF.out⟩, ?_⟩
      · rw [Nat.succ_add_eq_add_succ]
        exact ⟨rfl, rfl, rfl, rfl, rfl⟩
      · rw [HTK.out, ← List.append_assoc, strsCells_snoc, Nat.succ_add_eq_add_succ]
        exact HU9.out
      · show ss.length - (intOf (.int .i64 ((i : Int) + 1))).toNat < ss.length - (intOf (.int .i64 (i : Int))).toNat
        simp [intOf]; omega
    · intro c2 w2 hall hc2 hb2
      have HF := Lib.hid (HT2.out (HN2.out.trans (by rw [hall, Bool.false_and])))
      simp only [Exit.inBlock, Exit.then]
      exact HBAD.out _ _ HF.out hc2 (S1.out.trans (hb2.mono S1.out.size))
  · obtain rfl : i = ss.length := by omega
    have HE := Lib.hid (show ss.all (fun p => rcRec ss.length (es.map Prod.fst) p.1) = true by have h := HA.out; rw [List.take_length] at h; exact h)
    have hu := HU.out
    rw [List.take_length] at hu
    have HU2 := Lib.hid hu
    clear hlt HA hu HU
    go_wp2
    exact HQ.out _ _ _ _ HE.out ⟨rfl, rfl, rfl, rfl, rfl⟩ HB.out HU2.out
end Go.Proofs.YtdlfndjgncdgfaaGreatDoor
namespace Go.Proofs.YtdlfndjgncdgfaaGreatDoor
open Go.ChangeShapes Go.WideShapes Go.ChangeAt Go.RowKit Go.Shelf

set_option maxRecDepth 100000 in
set_option maxHeartbeats 8000000 in
theorem rcc_wp {Q : Exit → Act → World → Prop} {c : Act} {w0 : World} {q e rb : Nat} {a : Option Addr} {l : List ByteArray} (hc : RcC q a l.length e 0 c)
    (hrow : w0.ownsRow rb 9 1 (.slice a l.length e) l.length (strsCells l)) (hT : Tabs w0) (hs : ∀ s ∈ l, s.size ≤ 281474976710656)
    (hQ : ∀ c' w', l.all rcHead = true → RcC q a l.length e l.length c' → Below w0.heap.size w0 w' → Q (.exit 8) c' w')
    (hB : ∀ c' w', l.all rcHead = false → RcR false c' → Below w0.heap.size w0 w' → Q .ret c' w') :
    Code.wp Tryz.prog (Code.loop (loopsRc 4)) Q c w0 := by
  refine wp_loop (fun c' w' => ∃ k : Nat, k ≤ l.length ∧ RcC q a l.length e k c' ∧ Below w0.heap.size w0 w' ∧ (l.take k).all rcHead = true) (fun c' _ => l.length - (intOf (c'.tmps.getD 12 undef)).toNat) ⟨0, Nat.zero_le _, hc, Below.refl _ _, rfl⟩ ?_
  clear hc
  rintro c wr ⟨k, hk, hc, hb, ha⟩
  have HQ := Lib.hid hQ
  have HBAD := Lib.hid hB
  have HB := Lib.hid hb
  have HROW := Lib.hid (row_keep hb hrow)
  have HT := Lib.hid (hT.below (Nat.le_refl _) hb)
  have hfew := row_few hrow
  obtain ⟨u, rfl⟩ := hc.lit
  have HS := Lib.hid hs
  have HA := Lib.hid ha
  clear hc hQ hB hb hrow hT hs ha
  conv => arg 2; whnf
  by_cases hlt : k < l.length
  · obtain ⟨g, cc, hv, hcc, hg, hcell⟩ := row_el strCells 1 (fun _ => rfl) HROW.out k hlt
    obtain ⟨rfl, rfl⟩ := slice_inj hv
    have x0 : wr.cell? ⟨g, k, none⟩ = some (.string l[k]) := by have := hcell 0 (by omega); rw [Nat.mul_one, Nat.add_zero] at this; exact this
    have hgl : g < wr.heap.size := (ownsRow_lt HROW.out g rfl).2
    have hki : (k : Int) < l.length := by omega
    have HT1 := Lib.hid (all_take rcHead l k hlt)
    have HT2 := Lib.hid (all_false rcHead l k hlt)
    have hsz := HS.out l[k] (List.getElem_mem hlt)
    have HNM : Hid (rcHead l[k] = (decide (l[k].size ≤ 40) && (!takenB [] l[k] && aloneB l[k] 1 l[k]))) := Lib.hid rfl
    have HC := Lib.hid (fun W (hb : Below wr.heap.size wr W) => rone_any l[k] 1 l[k] W (HT.out.below (Nat.le_refl _) hb) (Nat.le_trans hsz (by decide)))
    have HCT := Lib.hid (fun W => rtaken_any [] (.slice none 0 0) 0 W (World.ownsRow_nil _ _ _ _) l[k])
    generalize l[k] = s at *
    clear hv hcell
    by_cases hl : s.size ≤ 40
    · have hd : decide ((40 : Int) < (s.size : Int)) = false := decide_eq_false (by omega)
      cases htk : takenB [] s
      · have HN2 := Lib.hid (HNM.out.trans (by rw [decide_eq_true hl, htk, Bool.true_and, Bool.not_false, Bool.true_and]))
        simp only [htk] at HCT
        clear HNM htk
        go_upto_region 36 with (fail)
        go_region_held3 (fun w' => w'.cell? ⟨g, k, none⟩ = some (.string s)) (first | assumption | (with_reducible exact k2) | (with_reducible exact k4) | go_keep) (first | (go_at_call 39; (first | (with_reducible refine (HCT.out wr).mono ?_) | (with_reducible refine (HCT.out wr.drew).mono ?_)); rintro e W3 ⟨rfl, hb3⟩; have hx3 : Below wr.heap.size wr W3 := (by first | exact (Below.refl _ wr).drew.trans hb3 | exact hb3); clear hb3; have k2 := (hx3.cell (p := ⟨g, k, none⟩) hgl).trans x0) | (go_at_call 37; (first | (with_reducible refine (HC.out W3 hx3).mono ?_) | (with_reducible refine (HC.out W3.drew hx3.drew).mono ?_)); rintro e W4 ⟨rfl, hb4⟩; have hx4 : Below wr.heap.size wr W4 := (by first | exact (hx3.drew).trans (hb4.mono hx3.size) | exact hx3.trans (hb4.mono hx3.size)); clear hb4; have k4 := (hx4.cell (p := ⟨g, k, none⟩) hgl).trans x0))
        all_goals
          have HX3 := Lib.hid (HB.out.trans (hx4.mono HB.out.size))
          clear hx3 hx4 k2 k4 x0
          simp only [Exit.then]
          apply_assumption
          cases hal : aloneB s 1 s
          · have HE := Lib.hid (HT2.out (HN2.out.trans hal))
            clear hal HN2 HT1 HT2 HC HCT
            go_wp2
            exact HBAD.out _ _ HE.out ⟨rfl, rfl, rfl⟩ (by first | exact HX3.out | exact HX3.out.drew)
          · have HE := Lib.hid (show (l.take (k + 1)).all rcHead = true by rw [HT1.out, HA.out, HN2.out, hal]; rfl)
            clear hal HN2 HT1 HT2 HC HCT
            go_wp2
            refine ⟨⟨k + 1, by omega, ⟨rfl, rfl, rfl, rfl, rfl⟩, by first | exact HX3.out | exact HX3.out.drew, HE.out⟩, ?_⟩
            show l.length - (intOf (.int .i64 ((k : Int) + 1))).toNat < l.length - (intOf (.int .i64 (k : Int))).toNat
            simp [intOf]; omega
      · have HF := Lib.hid (HT2.out (HNM.out.trans (by rw [decide_eq_true hl, htk, Bool.true_and, Bool.not_true, Bool.false_and])))
        simp only [htk] at HCT
        clear HNM htk HC HT1 HT2 hl
        go_upto_region 36 with (fail)
        refine wp_region_noPanic ?_
        refine wp_region_held_drew (S := (fun w' => w'.cell? ⟨g, k, none⟩ = some (.string s))) (by kernel_rfl) x0 ?_
        intro hS
        refine wpAnyH_take (i := 0) (v := .slice (some ⟨g, 0, none⟩) l.length e) rfl (by kernel_rfl) (by kernel_rfl) (by kernel_rfl) (fun _ _ _ h => h) (Or.inl ⟨by rfl, ?_⟩) hS ?_
        · intro w' hSw
          have s0 := hSw
          go_simp
        simp only [Act.put, List.getElem_toArray, List.getElem_cons_zero, List.setIfInBounds_toArray, List.set_cons_zero, List.set_cons_succ]
        refine wpAnyH_take (i := 1) (v := .int .i64 k) rfl (by kernel_rfl) (by kernel_rfl) (by kernel_rfl) (fun _ _ _ h => h) (Or.inl ⟨by rfl, ?_⟩) hS ?_
        · intro w' hSw
          have s0 := hSw
          go_simp
        simp only [Act.put, List.getElem_toArray, List.getElem_cons_succ, List.getElem_cons_zero, List.setIfInBounds_toArray, List.set_cons_zero, List.set_cons_succ]
        refine wpAnyH_take (i := 2) (v := .pointer (some ⟨g, k, none⟩)) rfl (by kernel_rfl) (by kernel_rfl) (by kernel_rfl) (fun _ _ _ h => h) (Or.inl ⟨by rfl, ?_⟩) hS ?_
        · intro w' hSw
          have s0 := hSw
          go_simp
        simp only [Act.put, List.getElem_toArray, List.getElem_cons_succ, List.getElem_cons_zero, List.setIfInBounds_toArray, List.set_cons_zero, List.set_cons_succ]
        refine wpAnyH_take (i := 3) (v := .string s) rfl (by kernel_rfl) (by kernel_rfl) (by kernel_rfl) (fun _ _ _ h => h) (Or.inl ⟨by rfl, ?_⟩) hS ?_
        · intro w' hSw
          have s0 := hSw
          go_simp
        simp only [Act.put, List.getElem_toArray, List.getElem_cons_succ, List.getElem_cons_zero, List.setIfInBounds_toArray, List.set_cons_zero, List.set_cons_succ]
        refine wpAnyH_take (i := 4) (v := .int .i64 s.size) rfl (by kernel_rfl) (by kernel_rfl) (by kernel_rfl) (fun _ _ _ h => h) (Or.inl ⟨by rfl, ?_⟩) hS ?_
        · intro w' hSw
          have s0 := hSw
          go_simp
        simp only [Act.put, List.getElem_toArray, List.getElem_cons_succ, List.getElem_cons_zero, List.setIfInBounds_toArray, List.set_cons_zero, List.set_cons_succ]
        refine wpAnyH_take (i := 5) (v := .bool false) rfl (by kernel_rfl) (by kernel_rfl) (by kernel_rfl) (fun _ _ _ h => h) (Or.inl ⟨by rfl, ?_⟩) hS ?_
        · intro w' hSw
          have s0 := hSw
          go_simp
        simp only [Act.put, List.getElem_toArray, List.getElem_cons_succ, List.getElem_cons_zero, List.setIfInBounds_toArray, List.set_cons_zero, List.set_cons_succ]
        refine wpAnyH_take (i := 6) (v := .bool false) rfl (by kernel_rfl) (by kernel_rfl) (by kernel_rfl) (fun _ _ _ h => h) (Or.inl ⟨by rfl, ?_⟩) hS ?_
        · intro w' hSw
          have s0 := hSw
          go_simp
        simp only [Act.put, List.getElem_toArray, List.getElem_cons_succ, List.getElem_cons_zero, List.setIfInBounds_toArray, List.set_cons_zero, List.set_cons_succ]
        refine wpAnyH_take (i := 7) (v := .slice (some ⟨g, 0, none⟩) l.length e) rfl (by kernel_rfl) (by kernel_rfl) (by kernel_rfl) (fun _ _ _ h => h) (Or.inl ⟨by rfl, ?_⟩) hS ?_
        · intro w' hSw
          have s0 := hSw
          go_simp
        simp only [Act.put, List.getElem_toArray, List.getElem_cons_succ, List.getElem_cons_zero, List.setIfInBounds_toArray, List.set_cons_zero, List.set_cons_succ]
        refine wpAnyH_take (i := 8) (v := .int .i64 k) rfl (by kernel_rfl) (by kernel_rfl) (by kernel_rfl) (fun _ _ _ h => h) (Or.inl ⟨by rfl, ?_⟩) hS ?_
        · intro w' hSw
          have s0 := hSw
          go_simp
        simp only [Act.put, List.getElem_toArray, List.getElem_cons_succ, List.getElem_cons_zero, List.setIfInBounds_toArray, List.set_cons_zero, List.set_cons_succ]
        refine wpAnyH_take (i := 9) (v := .pointer (some ⟨g, k, none⟩)) rfl (by kernel_rfl) (by kernel_rfl) (by kernel_rfl) (fun _ _ _ h => h) (Or.inl ⟨by rfl, ?_⟩) hS ?_
        · intro w' hSw
          have s0 := hSw
          go_simp
        simp only [Act.put, List.getElem_toArray, List.getElem_cons_succ, List.getElem_cons_zero, List.setIfInBounds_toArray, List.set_cons_zero, List.set_cons_succ]
        refine wpAnyH_take (i := 10) (v := .string s) rfl (by kernel_rfl) (by kernel_rfl) (by kernel_rfl) (fun _ _ _ h => h) (Or.inl ⟨by rfl, ?_⟩) hS ?_
        · intro w' hSw
          have s0 := hSw
          go_simp
        simp only [Act.put, List.getElem_toArray, List.getElem_cons_succ, List.getElem_cons_zero, List.setIfInBounds_toArray, List.set_cons_zero, List.set_cons_succ]
        refine wpAnyH_ready (rs := [11]) (by kernel_rfl) (by decide) (AllReadyH.cons rfl (fun K hK => ?_) AllReadyH.nil)
        rw [if_pos (by kernel_rfl)]
        go_simp
        refine (HCT.out wr.drew).mono ?_
        rintro ee W3 ⟨rfl, hb3⟩
        have hx3 : Below wr.heap.size wr W3 := (Below.refl _ wr).drew.trans hb3
        have k2 := (hx3.cell (p := ⟨g, k, none⟩) hgl).trans x0
        have HX3 := Lib.hid (HB.out.trans (hx3.mono HB.out.size))
        refine hK.out _ _ k2 (fun hS => ?_)
        refine wpAnyH_take (i := 12) (v := .bool true) rfl (by kernel_rfl) (by kernel_rfl) (by kernel_rfl) (fun _ _ _ h => h) (Or.inl ⟨by rfl, ?_⟩) hS ?_
        · intro w' hSw
          have s0 := hSw
          go_simp
        simp only [Act.put, List.getElem_toArray, List.getElem_cons_succ, List.getElem_cons_zero, List.setIfInBounds_toArray, List.set_cons_zero, List.set_cons_succ]
        refine wpAnyH_take (i := 13) (v := .bool true) rfl (by kernel_rfl) (by kernel_rfl) (by kernel_rfl) (fun _ _ _ h => h) (Or.inl ⟨by rfl, ?_⟩) hS ?_
        · intro w' hSw
          have s0 := hSw
          go_simp
        simp only [Act.put, List.getElem_toArray, List.getElem_cons_succ, List.getElem_cons_zero, List.setIfInBounds_toArray, List.set_cons_zero, List.set_cons_succ]
        refine wpAnyH_take (i := 14) (v := undef) rfl (by kernel_rfl) (by kernel_rfl) (by kernel_rfl) (fun _ _ _ h => h) (Or.inr ⟨by kernel_rfl, rfl⟩) hS ?_
        simp only [Act.put, List.getElem_toArray, List.getElem_cons_succ, List.getElem_cons_zero, List.setIfInBounds_toArray, List.set_cons_zero, List.set_cons_succ]
        refine wpAnyH_take (i := 15) (v := undef) rfl (by kernel_rfl) (by kernel_rfl) (by kernel_rfl) (fun _ _ _ h => h) (Or.inr ⟨by kernel_rfl, rfl⟩) hS ?_
        simp only [Act.put, List.getElem_toArray, List.getElem_cons_succ, List.getElem_cons_zero, List.setIfInBounds_toArray, List.set_cons_zero, List.set_cons_succ]
        refine wpAnyH_take (i := 16) (v := undef) rfl (by kernel_rfl) (by kernel_rfl) (by kernel_rfl) (fun _ _ _ h => h) (Or.inr ⟨by kernel_rfl, rfl⟩) hS ?_
        simp only [Act.put, List.getElem_toArray, List.getElem_cons_succ, List.getElem_cons_zero, List.setIfInBounds_toArray, List.set_cons_zero, List.set_cons_succ]
        refine wpAnyH_take (i := 17) (v := undef) rfl (by kernel_rfl) (by kernel_rfl) (by kernel_rfl) (fun _ _ _ h => h) (Or.inr ⟨by kernel_rfl, rfl⟩) hS ?_
        simp only [Act.put, List.getElem_toArray, List.getElem_cons_succ, List.getElem_cons_zero, List.setIfInBounds_toArray, List.set_cons_zero, List.set_cons_succ]
        refine wpAnyH_take (i := 18) (v := undef) rfl (by kernel_rfl) (by kernel_rfl) (by kernel_rfl) (fun _ _ _ h => h) (Or.inr ⟨by kernel_rfl, rfl⟩) hS ?_
        simp only [Act.put, List.getElem_toArray, List.getElem_cons_succ, List.getElem_cons_zero, List.setIfInBounds_toArray, List.set_cons_zero, List.set_cons_succ]
        refine wpAnyH_take (i := 19) (v := undef) rfl (by kernel_rfl) (by kernel_rfl) (by kernel_rfl) (fun _ _ _ h => h) (Or.inr ⟨by kernel_rfl, rfl⟩) hS ?_
        simp only [Act.put, List.getElem_toArray, List.getElem_cons_succ, List.getElem_cons_zero, List.setIfInBounds_toArray, List.set_cons_zero, List.set_cons_succ]
        refine wpAnyH_take (i := 20) (v := undef) rfl (by kernel_rfl) (by kernel_rfl) (by kernel_rfl) (fun _ _ _ h => h) (Or.inr ⟨by kernel_rfl, rfl⟩) hS ?_
        simp only [Act.put, List.getElem_toArray, List.getElem_cons_succ, List.getElem_cons_zero, List.setIfInBounds_toArray, List.set_cons_zero, List.set_cons_succ]
        refine wpAnyH_take (i := 21) (v := undef) rfl (by kernel_rfl) (by kernel_rfl) (by kernel_rfl) (fun _ _ _ h => h) (Or.inr ⟨by kernel_rfl, rfl⟩) hS ?_
        simp only [Act.put, List.getElem_toArray, List.getElem_cons_succ, List.getElem_cons_zero, List.setIfInBounds_toArray, List.set_cons_zero, List.set_cons_succ]
        refine wpAnyH_take (i := 22) (v := undef) rfl (by kernel_rfl) (by kernel_rfl) (by kernel_rfl) (fun _ _ _ h => h) (Or.inr ⟨by kernel_rfl, rfl⟩) hS ?_
        simp only [Act.put, List.getElem_toArray, List.getElem_cons_succ, List.getElem_cons_zero, List.setIfInBounds_toArray, List.set_cons_zero, List.set_cons_succ]
        refine wpAnyH_take (i := 23) (v := undef) rfl (by kernel_rfl) (by kernel_rfl) (by kernel_rfl) (fun _ _ _ h => h) (Or.inr ⟨by kernel_rfl, rfl⟩) hS ?_
        simp only [Act.put, List.getElem_toArray, List.getElem_cons_succ, List.getElem_cons_zero, List.setIfInBounds_toArray, List.set_cons_zero, List.set_cons_succ]
        refine wpAnyH_take (i := 24) (v := .bool true) rfl (by kernel_rfl) (by kernel_rfl) (by kernel_rfl) (fun _ _ _ h => h) (Or.inl ⟨by rfl, ?_⟩) hS ?_
        · intro w' hSw
          have s0 := hSw
          go_simp
        simp only [Act.put, List.getElem_toArray, List.getElem_cons_succ, List.getElem_cons_zero, List.setIfInBounds_toArray, List.set_cons_zero, List.set_cons_succ]
        refine wpAnyH_done (by kernel_rfl) ?_ _
        refine NoPanic.normal ?_
        simp only [Exit.then]
        go_wp2
        exact HBAD.out _ _ HF.out ⟨rfl, rfl, rfl⟩ HX3.out
    · have HE := Lib.hid (HT2.out (HNM.out.trans (by rw [decide_eq_false hl, Bool.false_and])))
      have hd : decide ((40 : Int) < (s.size : Int)) = true := decide_eq_true (by omega)
      clear hl HNM HT1 HT2 HC HCT
      go_wp2_with fail
      go_quiet (fail)
      go_wp2
      exact HBAD.out _ _ HE.out ⟨rfl, rfl, rfl⟩ (bel_drewN HB.out _)
  · obtain rfl : k = l.length := by omega
    have HE := Lib.hid (show l.all rcHead = true by have h := HA.out; rw [List.take_length] at h; exact h)
    clear hlt HA
    go_wp2
    exact HQ.out _ _ HE.out ⟨rfl, rfl, rfl, rfl, rfl⟩ HB.out
end Go.Proofs.YtdlfndjgncdgfaaGreatDoor
