/-
  The document's Make: the loop that makes the enums, whole. Conditions: those that each theorem names.
-/
import Derived.Test.YtleclhnlojalbaaGreatDoorPkL19
import Derived.Test.YtleclhnlojalbaaGreatDoorPkL33
import Derived.Test.YtleclhnlojalbaaGreatDoorPkL37
import Derived.Test.YtleclhnlojalbaaGreatDoorPkL38
import Derived.Deep.RegionLaw
import Derived.Deep.AppendLies
import Derived.Deep.RegionHeld3
namespace Go.Proofs.YtleclhnlojalbaaGreatDoor
open Go.ChangeShapes Go.WideShapes Go.ChangeAt Go.RowKit Go.Shelf

structure RmKeep (w : World) (sv ev rv : Value) (W : World) : Prop where
  bel : Below w.heap.size w W
  raw : W.heap[w.heap.size]? = some (.cells #[sv, ev, rv] 69 (0, 0))
  res : noRes W (w.heap.size + 1)
theorem RmKeep.below {w W W' : World} {sv ev rv : Value} {B : Nat} (h : RmKeep w sv ev rv W) (hb : Below B W W') (hB : w.heap.size + 2 ≤ B) : RmKeep w sv ev rv W' :=
  ⟨h.bel.trans (hb.mono (by omega)), blk_below h.raw hb (by omega), blk_below h.res hb (by omega)⟩
theorem RmKeep.grown {w W Wa W' : World} {sv ev rv : Value} {row : Option Nat} (h : RmKeep w sv ev rv W) (ha : Below W.heap.size W Wa) (hg : Wa.grownBy W' row) (hr : ∀ k, row = some k → w.heap.size + 2 ≤ k) : RmKeep w sv ev rv W' := by
  have l1 := blk_lt h.raw
  have l2 := blk_lt h.res
  have hs := ha.size
  refine ⟨(h.bel.trans (ha.mono h.bel.size)).grown hg (by omega) (fun k hk => by have := hr k hk; omega), (hg.block _ (by omega) (fun e => by have := hr _ e.symm; omega)).trans (blk_below h.raw ha l1), (hg.block _ (by omega) (fun e => by have := hr _ e.symm; omega)).trans (blk_below h.res ha l2)⟩
theorem taken_look (kd : Nat) {m0 : List NEnt} {U0 : List ByteArray} (hm : m0.map NEnt.name = basicS ++ U0) (l : List ByteArray) (s : ByteArray) : (lookN (m0 ++ entsOf kd 0 l) s).isSome = takenB (U0 ++ l) s := by
  rw [lookN_has, List.map_append, ents_names, hm, takenB, hasS_append, hasS_append, hasS_append, Bool.or_assoc]
def RmAAt (w : World) (sv ev rv : Value) (re : List (RCho × Value)) (m0 : List NEnt) (U0 : List ByteArray) (c' : Act) (w' : World) : Prop := ∃ (i e : Nat) (a : Option Addr), i ≤ re.length ∧ i ≤ 8 ∧ RmA w.heap.size a (U0.length + i) e i c' ∧ RmKeep w sv ev rv w' ∧ w'.ownsRow (w.heap.size + 2) 9 1 (.slice a (U0.length + i) e) (U0.length + i) (strsCells (U0 ++ (choNms re).take i)) ∧ chosM 0 m0 (re.map Prod.fst) = chosM i (m0 ++ entsOf 10 0 ((choNms re).take i)) ((re.map Prod.fst).drop i)
set_option maxRecDepth 100000 in
set_option maxHeartbeats 8000000 in
theorem rma_wp {Q : Exit → Act → World → Prop} {c : Act} {w w0 : World} {rb e0 : Nat} {rs : List (RRec × Value)} {re : List (RCho × Value)} {rt : List Tok} {sv ev rv : Value} {a0 : Option Addr} {m0 : List NEnt} {U0 : List ByteArray} (h : RawRows rb w rs re rt sv ev rv) (hm : m0.map NEnt.name = basicS ++ U0) (hU : U0.length ≤ 8)
    (hc : RmA w.heap.size a0 U0.length e0 0 c) (hk : RmKeep w sv ev rv w0) (hu : w0.ownsRow (w.heap.size + 2) 9 1 (.slice a0 U0.length e0) U0.length (strsCells U0))
    (hQ : ∀ c' w' a' e' m1, chosM 0 m0 (re.map Prod.fst) = .ok m1 → re.length ≤ 8 → RmA w.heap.size a' (U0.length + re.length) e' re.length c' → RmKeep w sv ev rv w' → w'.ownsRow (w.heap.size + 2) 9 1 (.slice a' (U0.length + re.length) e') (U0.length + re.length) (strsCells (U0 ++ choNms re)) → Q (.exit 0) c' w')
    (hB : ∀ c' w' (code : Int) (p : Nat), chosM 0 m0 (re.map Prod.fst) = .no code p → RmR w.heap.size code p c' → noRes w' (w.heap.size + 1) → Below w.heap.size w w' → Q .ret c' w') :
    Code.wp Tryz.prog (Code.loop (loopsRm 0)) Q c w0 := by
  obtain ⟨sa, sc, ea, ec, ra, rc, rfl, rfl, rfl⟩ := h.forms
  refine wp_loop (RmAAt w (.slice sa rs.length sc) (.slice ea re.length ec) (.slice ra rt.length rc) re m0 U0)
    (fun c' _ => re.length - (intOf (c'.tmps.getD 6 undef)).toNat) ⟨0, e0, a0, Nat.zero_le _, Nat.zero_le _, hc, hk, by simpa using hu, by simp [entsOf]⟩ ?_
  clear hc hk hu
  rintro c wr ⟨i, e, a, hi, hlim, hc, hk, hu, hch⟩
  have HRAW := Lib.hid h
  have HQ := Lib.hid hQ
  have HBAD := Lib.hid hB
  have HK := Lib.hid hk
  have HU := Lib.hid hu
  have HCH := Lib.hid hch
  have HM := Lib.hid hm
  have hfs := row_few h.structs
  have hfe := row_few h.enums
  obtain ⟨_, p0, p1, p2, _⟩ := blk3 hk.raw
  obtain ⟨u, rfl⟩ := hc.lit
  clear hc hQ hB hk hu hch h hm
  conv => arg 2; whnf
  by_cases hlt : i < re.length
  · obtain ⟨g, cc, hv, hcc, hg, hcell⟩ := row_el choCells 3 (fun _ => rfl) (row_keep HK.out.bel HRAW.out.enums) i hlt
    obtain ⟨rfl, rfl⟩ := slice_inj hv
    have hn := HRAW.out.names _ (List.getElem_mem hlt)
    obtain ⟨na, nc, hnv⟩ := ownsRow_form hn
    have x0 : wr.cell? ⟨g, i * 3, none⟩ = some (.string (strOfNums re[i].1.name)) := hcell 0 (by omega)
    have x1 : wr.cell? ⟨g, i * 3 + 1, none⟩ = some (.int .i64 re[i].1.place) := hcell 1 (by omega)
    have x2 : wr.cell? ⟨g, i * 3 + 2, none⟩ = some (.slice na re[i].1.names.length nc) := by rw [← hnv]; exact hcell 2 (by omega)
    rw [hnv] at hn
    have HN := Lib.hid hn
    have hfn := row_few hn
    have HNQ := Lib.hid (show ∀ g, na = some g → g.block ≠ w.heap.size + 1 from fun g hg => by
      have := (ownsRow_lt hn g.block (by rw [hg]; rfl)).2
      omega)
    have HST := Lib.hid (show chosM 0 m0 (re.map Prod.fst) = (choM i (m0 ++ entsOf 10 0 ((choNms re).take i)) re[i].1).bind fun m' => chosM (i + 1) m' ((re.map Prod.fst).drop (i + 1)) by
      rw [HCH.out, chos_step i _ (re.map Prod.fst) i (by simpa using hlt)]
      simp)
    have HLK := Lib.hid (taken_look 10 HM.out ((choNms re).take i) (strOfNums re[i].1.name))
    have HTK := Lib.hid (show (choNms re).take (i + 1) = (choNms re).take i ++ [strOfNums re[i].1.name] by
      rw [List.take_succ_eq_append_getElem (by rw [choNms_len]; exact hlt), choNms_at re i hlt])
    have HTL := Lib.hid (show ((choNms re).take i).length = i by rw [List.length_take, choNms_len]; omega)
    generalize hmi : m0 ++ entsOf 10 0 ((choNms re).take i) = mi at *
    generalize hui : U0 ++ (choNms re).take i = ui at *
    have HMI := Lib.hid hmi
    have HUI := Lib.hid hui
    have HUL := Lib.hid (show ui.length = U0.length + i by rw [← hui, List.length_append, HTL.out])
    generalize re[i].1 = d at *
    obtain ⟨dn, dp, dl⟩ := d
    simp only at *
    generalize hnm : strOfNums dn = nm at *
    have HNM := Lib.hid hnm
    have hii : (i : Int) < re.length := by omega
    clear hv hcell hn hnv hmi hui hnm HCH
    have hbt : Below wr.heap.size wr (wr.alloc (.cells #[.string nm, .int .i64 dp, .slice na dl.length nc] 117)) := (Below.refl _ _).alloc (Nat.le_refl _) _
    have HBT := Lib.hid hbt
    have HE := Lib.hid (heap_alloc_new wr (.cells #[.string nm, .int .i64 dp, .slice na dl.length nc] 117))
    have hql : w.heap.size + 1 < wr.heap.size := blk_lt HK.out.res
    clear hbt
    go_upto_region 6 with (fail)
    generalize wr.alloc (.cells #[.string nm, .int .i64 dp, .slice na dl.length nc] 117) = Wt at *
    clear x0 x1 x2 p0 p1 p2
    obtain ⟨_, y0, y1, y2, _⟩ := blk3 HE.out
    have HROW0 := Lib.hid (show Wt.ownsRow (w.heap.size + 2) 9 1 (.slice a (U0.length + i) e) ui.length (strsCells ui) from by rw [HUL.out]; exact row_keep HBT.out HU.out)
    go_wp2_with fail
    refine (rtaken_any ui (.slice a (U0.length + i) e) (w.heap.size + 2) Wt HROW0.out nm).mono ?_
    rintro ee W3 ⟨rfl, hb3⟩
    have HB3 := Lib.hid (HBT.out.trans (hb3.mono HBT.out.size))
    have HE3 := Lib.hid (blk_below HE.out hb3 (blk_lt HE.out))
    have HK3 := Lib.hid (HK.out.below HB3.out (by omega))
    have HU3 := Lib.hid (row_keep HB3.out HU.out)
    clear hb3 y0 y1 y2 HE HROW0
    obtain ⟨hEl, y0, y1, y2, _⟩ := blk3 HE3.out
    obtain ⟨hRl, _, _, _, f0, f1, f2⟩ := blk3 HK3.out.res
    cases htk : takenB ui nm
    · have HLK2 := Lib.hid (HLK.out.trans htk)
      obtain ⟨i0, hi0, hzz0, hzz1, hzz2⟩ := info_parts str_info
      have I1 := Lib.hid hi0
      have I2 := Lib.hid hzz0
      have I3 := Lib.hid hzz1
      have I4 := Lib.hid hzz2
      have HBN := Lib.hid (heap_alloc_new W3 (.cells #[.string nm] 9))
      have HBA := Lib.hid ((Below.refl W3.heap.size W3).alloc (Nat.le_refl _) (.cells #[.string nm] 9))
      clear hi0 hzz0 hzz1 hzz2 htk HLK
      go_upto_region 9 with (at_builtin; refine wpList_append_own _ rfl (.tmp 47) (.tmp 50) 36 rfl (w.heap.size + 2) 9 i0 _ 1 16 Tryz.underlying36 I1.out I2.out I3.out I4.out rfl (by decide) _ (U0.length + i) (strsCells ui) rfl (row_keep HBA.out HU3.out) _ 1 1 [.string nm] rfl rfl (World.news_of_block HBN.out) (by intro u hu; simp at hu; subst hu; rfl) (by unfold maxLen; omega) (by omega) (by simp; omega) ?_; intro v4 W8 hown4 hg4 hx; clear hx; have HG4 := Lib.hid hg4; obtain ⟨a4, e4, rfl⟩ := ownsRow_form hown4; have HU8 := Lib.hid hown4; have hE8 := (hg4.block wr.heap.size (by simp; omega) (fun e' => by have := (ownsRow_lt HU.out _ e'.symm).2; omega)).trans (blk_below HE3.out HBA.out (blk_lt HE3.out)); have HE8 := Lib.hid hE8; have HK8 := Lib.hid (HK3.out.grown HBA.out hg4 (fun k hk => (ownsRow_lt HU3.out k hk).1)); obtain ⟨_, b0, b1, b2, _⟩ := blk3 hE8; obtain ⟨_, _, _, _, f3, f4, f5⟩ := blk3 HK8.out.res; clear hown4 hg4 hE8)
      clear y0 y1 y2 f0 f1 f2
      by_cases hfew : i < 8 ∧ 1 ≤ dl.length ∧ dl.length ≤ 32
      · obtain ⟨g1, g2, g3⟩ := hfew
        have HFEW := Lib.hid (decide_eq_true (show i < 8 ∧ 1 ≤ dl.length ∧ dl.length ≤ 32 from ⟨g1, g2, g3⟩)).symm
        go_wp2_with fail
        refine rma2_wp ⟨rfl, rfl, rfl, rfl, rfl, rfl, rfl, rfl⟩ HE8.out hql (row_keep HK8.out.bel HN.out) HNQ.out HK8.out.res ?_ ?_
        · intro c2 w2 hd hc2 hb2
          have HOK := Lib.hid (choM_ok (k := i) (m := mi) (q := ⟨dn, dp, dl⟩) (by rw [HNM.out]; exact HLK2.out) HFEW.out hd)
          have HK2 := Lib.hid (HK8.out.below hb2 (by have := blk_lt HK8.out.res; omega))
          have HU2 := Lib.hid (row_keep hb2 HU8.out)
          obtain ⟨u2, rfl⟩ := hc2.lit
          clear hc2 hb2 hd b0 b1 b2 f3 f4 f5
          simp only [Exit.inBlock, Exit.then]
          apply_assumption
          go_wp2
          refine ⟨⟨i + 1, e4, a4, by omega, by omega, ⟨rfl, rfl, rfl, rfl, rfl, rfl⟩, HK2.out, ?_, ?_⟩, ?_⟩
          · rw [HTK.out, ← List.append_assoc, HUI.out, strsCells_snoc]
            exact HU2.out
          · rw [HST.out, HOK.out, mbind_ok, HTK.out, ents_append, HTL.out, ← List.append_assoc, HMI.out, Nat.zero_add, HNM.out]
            rfl
          · show re.length - (intOf (.int .i64 ((i : Int) + 1))).toNat < re.length - (intOf (.int .i64 (i : Int))).toNat
            simp [intOf]; omega
        · intro c2 w2 j hj hd hc2 hr2 hb2
          have HNO := Lib.hid (choM_dup (k := i) (m := mi) (q := ⟨dn, dp, dl⟩) (by rw [HNM.out]; exact HLK2.out) HFEW.out hd hj)
          simp only [Exit.inBlock, Exit.then]
          exact HBAD.out _ _ 13 dl[j].place (by rw [HST.out, HNO.out]; rfl) hc2 hr2 (HK8.out.bel.trans (hb2.mono (Nat.le_succ _)))
      · have HNO := Lib.hid (choM_16 (k := i) (m := mi) (q := ⟨dn, dp, dl⟩) (by rw [HNM.out]; exact HLK2.out) (decide_eq_false hfew).symm)
        have hor : ¬ i < 8 ∨ (i < 8 ∧ dl.length < 1) ∨ (i < 8 ∧ ¬ dl.length < 1 ∧ 32 < dl.length) := by omega
        clear hfew
        rcases hor with hbad | ⟨hb1, hbad⟩ | ⟨hb1, hb2, hbad⟩
        all_goals
          go_wp2_with fail
          go_region
          all_goals
            simp only [Exit.then]
            apply_assumption
            go_wp2
            exact HBAD.out _ _ 16 dp (by rw [HST.out, HNO.out]; rfl) ⟨rfl, rfl, rfl, rfl, rfl⟩ HK8.out.res.put (bel_put HK8.out.bel (Nat.le_succ _) _ _ _).drew
    · have HNO := Lib.hid (choM_13 (k := i) (m := mi) (q := ⟨dn, dp, dl⟩) (by rw [HNM.out]; exact HLK.out.trans htk))
      clear htk
      go_wp2_with fail
      go_region
      all_goals
        simp only [Exit.then]
        apply_assumption
        go_wp2
        exact HBAD.out _ _ 13 dp (by rw [HST.out, HNO.out]; rfl) ⟨rfl, rfl, rfl, rfl, rfl⟩ HK3.out.res.put (bel_put HK3.out.bel (Nat.le_succ _) _ _ _).drew
  · obtain rfl : i = re.length := by omega
    clear hlt
    go_wp2
    refine HQ.out _ _ _ _ (m0 ++ entsOf 10 0 ((choNms re).take re.length)) ?_ hlim ⟨rfl, rfl, rfl, rfl, rfl, rfl⟩ HK.out ?_
    · rw [HCH.out, show (re.map Prod.fst).drop re.length = [] from List.drop_eq_nil_of_le (by simp)]
      rfl
    · have := HU.out
      rw [show (choNms re).take re.length = choNms re by rw [← choNms_len, List.take_length]] at this
      exact this
end Go.Proofs.YtleclhnlojalbaaGreatDoor
namespace Go.Proofs.YtleclhnlojalbaaGreatDoor
open Go.ChangeShapes Go.WideShapes Go.ChangeAt Go.RowKit Go.Shelf

def RmBAt (w : World) (sv ev rv : Value) (rs : List (RRec × Value)) (m0 : List NEnt) (U0 : List ByteArray) (c' : Act) (w' : World) : Prop := ∃ (i e : Nat) (a : Option Addr), i ≤ rs.length ∧ i ≤ 16 ∧ RmB w.heap.size a (U0.length + i) e i c' ∧ RmKeep w sv ev rv w' ∧ w'.ownsRow (w.heap.size + 2) 9 1 (.slice a (U0.length + i) e) (U0.length + i) (strsCells (U0 ++ (recNms rs).take i)) ∧ recsM 0 m0 (rs.map Prod.fst) = recsM i (m0 ++ entsOf 13 0 ((recNms rs).take i)) ((rs.map Prod.fst).drop i)
set_option maxRecDepth 100000 in
set_option maxHeartbeats 8000000 in
theorem rmb_wp {Q : Exit → Act → World → Prop} {c : Act} {w w0 : World} {rb e0 : Nat} {rs : List (RRec × Value)} {re : List (RCho × Value)} {rt : List Tok} {sv ev rv : Value} {a0 : Option Addr} {m0 : List NEnt} {U0 : List ByteArray} (h : RawRows rb w rs re rt sv ev rv) (hm : m0.map NEnt.name = basicS ++ U0) (hU : U0.length ≤ 8)
    (hc : RmB w.heap.size a0 U0.length e0 0 c) (hk : RmKeep w sv ev rv w0) (hu : w0.ownsRow (w.heap.size + 2) 9 1 (.slice a0 U0.length e0) U0.length (strsCells U0))
    (hQ : ∀ c' w' a' e' m1, recsM 0 m0 (rs.map Prod.fst) = .ok m1 → rs.length ≤ 16 → RmB w.heap.size a' (U0.length + rs.length) e' rs.length c' → RmKeep w sv ev rv w' → w'.ownsRow (w.heap.size + 2) 9 1 (.slice a' (U0.length + rs.length) e') (U0.length + rs.length) (strsCells (U0 ++ recNms rs)) → Q (.exit 6) c' w')
    (hB : ∀ c' w' (code : Int) (p : Nat), recsM 0 m0 (rs.map Prod.fst) = .no code p → RmR w.heap.size code p c' → noRes w' (w.heap.size + 1) → Below w.heap.size w w' → Q .ret c' w') :
    Code.wp Tryz.prog (Code.loop (loopsRm 3)) Q c w0 := by
  obtain ⟨sa, sc, ea, ec, ra, rc, rfl, rfl, rfl⟩ := h.forms
  refine wp_loop (RmBAt w (.slice sa rs.length sc) (.slice ea re.length ec) (.slice ra rt.length rc) rs m0 U0)
    (fun c' _ => rs.length - (intOf (c'.tmps.getD 10 undef)).toNat) ⟨0, e0, a0, Nat.zero_le _, Nat.zero_le _, hc, hk, by simpa using hu, by simp [entsOf]⟩ ?_
  clear hc hk hu
  rintro c wr ⟨i, e, a, hi, hlim, hc, hk, hu, hch⟩
  have HRAW := Lib.hid h
  have HQ := Lib.hid hQ
  have HBAD := Lib.hid hB
  have HK := Lib.hid hk
  have HU := Lib.hid hu
  have HCH := Lib.hid hch
  have HM := Lib.hid hm
  have hfs := row_few h.structs
  have hfe := row_few h.enums
  obtain ⟨_, p0, p1, p2, _⟩ := blk3 hk.raw
  obtain ⟨u, rfl⟩ := hc.lit
  clear hc hQ hB hk hu hch h hm
  conv => arg 2; whnf
  by_cases hlt : i < rs.length
  · obtain ⟨g, cc, hv, hcc, hg, hcell⟩ := row_el recCells 3 (fun _ => rfl) (row_keep HK.out.bel HRAW.out.structs) i hlt
    obtain ⟨rfl, rfl⟩ := slice_inj hv
    have hn := HRAW.out.fields _ (List.getElem_mem hlt)
    obtain ⟨na, nc, hnv⟩ := ownsRow_form hn
    have x0 : wr.cell? ⟨g, i * 3, none⟩ = some (.string (strOfNums rs[i].1.name)) := hcell 0 (by omega)
    have x1 : wr.cell? ⟨g, i * 3 + 1, none⟩ = some (.int .i64 rs[i].1.place) := hcell 1 (by omega)
    have x2 : wr.cell? ⟨g, i * 3 + 2, none⟩ = some (.slice na rs[i].1.fields.length nc) := by rw [← hnv]; exact hcell 2 (by omega)
    rw [hnv] at hn
    have HN := Lib.hid hn
    have hfn := row_few hn
    have HNQ := Lib.hid (show ∀ g, na = some g → g.block ≠ w.heap.size + 1 from fun g hg => by
      have := (ownsRow_lt hn g.block (by rw [hg]; rfl)).2
      omega)
    have HST := Lib.hid (show recsM 0 m0 (rs.map Prod.fst) = (recM i (m0 ++ entsOf 13 0 ((recNms rs).take i)) rs[i].1).bind fun m' => recsM (i + 1) m' ((rs.map Prod.fst).drop (i + 1)) by
      rw [HCH.out, recs_step i _ (rs.map Prod.fst) i (by simpa using hlt)]
      simp)
    have HLK := Lib.hid (taken_look 13 HM.out ((recNms rs).take i) (strOfNums rs[i].1.name))
    have HTK := Lib.hid (show (recNms rs).take (i + 1) = (recNms rs).take i ++ [strOfNums rs[i].1.name] by
      rw [List.take_succ_eq_append_getElem (by rw [recNms_len]; exact hlt), recNms_at rs i hlt])
    have HTL := Lib.hid (show ((recNms rs).take i).length = i by rw [List.length_take, recNms_len]; omega)
    generalize hmi : m0 ++ entsOf 13 0 ((recNms rs).take i) = mi at *
    generalize hui : U0 ++ (recNms rs).take i = ui at *
    have HMI := Lib.hid hmi
    have HUI := Lib.hid hui
    have HUL := Lib.hid (show ui.length = U0.length + i by rw [← hui, List.length_append, HTL.out])
    generalize rs[i].1 = d at *
    obtain ⟨dn, dp, dl⟩ := d
    simp only at *
    generalize hnm : strOfNums dn = nm at *
    have HNM := Lib.hid hnm
    have hii : (i : Int) < rs.length := by omega
    clear hv hcell hn hnv hmi hui hnm HCH
    have hbt : Below wr.heap.size wr (wr.alloc (.cells #[.string nm, .int .i64 dp, .slice na dl.length nc] 114)) := (Below.refl _ _).alloc (Nat.le_refl _) _
    have HBT := Lib.hid hbt
    have HE := Lib.hid (heap_alloc_new wr (.cells #[.string nm, .int .i64 dp, .slice na dl.length nc] 114))
    have hql : w.heap.size + 1 < wr.heap.size := blk_lt HK.out.res
    clear hbt
    go_upto_region 23 with (fail)
    generalize wr.alloc (.cells #[.string nm, .int .i64 dp, .slice na dl.length nc] 114) = Wt at *
    clear x0 x1 x2 p0 p1 p2
    obtain ⟨_, y0, y1, y2, _⟩ := blk3 HE.out
    have HROW0 := Lib.hid (show Wt.ownsRow (w.heap.size + 2) 9 1 (.slice a (U0.length + i) e) ui.length (strsCells ui) from by rw [HUL.out]; exact row_keep HBT.out HU.out)
    go_wp2_with fail
    refine (rtaken_any ui (.slice a (U0.length + i) e) (w.heap.size + 2) Wt HROW0.out nm).mono ?_
    rintro ee W3 ⟨rfl, hb3⟩
    have HB3 := Lib.hid (HBT.out.trans (hb3.mono HBT.out.size))
    have HE3 := Lib.hid (blk_below HE.out hb3 (blk_lt HE.out))
    have HK3 := Lib.hid (HK.out.below HB3.out (by omega))
    have HU3 := Lib.hid (row_keep HB3.out HU.out)
    clear hb3 y0 y1 y2 HE HROW0
    obtain ⟨hEl, y0, y1, y2, _⟩ := blk3 HE3.out
    obtain ⟨hRl, _, _, _, f0, f1, f2⟩ := blk3 HK3.out.res
    cases htk : takenB ui nm
    · have HLK2 := Lib.hid (HLK.out.trans htk)
      obtain ⟨i0, hi0, hzz0, hzz1, hzz2⟩ := info_parts str_info
      have I1 := Lib.hid hi0
      have I2 := Lib.hid hzz0
      have I3 := Lib.hid hzz1
      have I4 := Lib.hid hzz2
      have HBN := Lib.hid (heap_alloc_new W3 (.cells #[.string nm] 9))
      have HBA := Lib.hid ((Below.refl W3.heap.size W3).alloc (Nat.le_refl _) (.cells #[.string nm] 9))
      clear hi0 hzz0 hzz1 hzz2 htk HLK
      go_upto_region 26 with (at_builtin; refine wpList_append_own _ rfl (.tmp 120) (.tmp 123) 36 rfl (w.heap.size + 2) 9 i0 _ 1 16 Tryz.underlying36 I1.out I2.out I3.out I4.out rfl (by decide) _ (U0.length + i) (strsCells ui) rfl (row_keep HBA.out HU3.out) _ 1 1 [.string nm] rfl rfl (World.news_of_block HBN.out) (by intro u hu; simp at hu; subst hu; rfl) (by unfold maxLen; omega) (by omega) (by simp; omega) ?_; intro v4 W8 hown4 hg4 hx; clear hx; have HG4 := Lib.hid hg4; obtain ⟨a4, e4, rfl⟩ := ownsRow_form hown4; have HU8 := Lib.hid hown4; have hE8 := (hg4.block wr.heap.size (by simp; omega) (fun e' => by have := (ownsRow_lt HU.out _ e'.symm).2; omega)).trans (blk_below HE3.out HBA.out (blk_lt HE3.out)); have HE8 := Lib.hid hE8; have HK8 := Lib.hid (HK3.out.grown HBA.out hg4 (fun k hk => (ownsRow_lt HU3.out k hk).1)); obtain ⟨_, b0, b1, b2, _⟩ := blk3 hE8; obtain ⟨_, _, _, _, f3, f4, f5⟩ := blk3 HK8.out.res; clear hown4 hg4 hE8)
      clear y0 y1 y2 f0 f1 f2
      by_cases hfew : i < 16 ∧ 1 ≤ dl.length ∧ dl.length ≤ 16
      · obtain ⟨g1, g2, g3⟩ := hfew
        have HFEW := Lib.hid (decide_eq_true (show i < 16 ∧ 1 ≤ dl.length ∧ dl.length ≤ 16 from ⟨g1, g2, g3⟩)).symm
        go_wp2_with fail
        refine rmb2_wp ⟨rfl, rfl, rfl, rfl, rfl, rfl, rfl, rfl⟩ HE8.out hql (row_keep HK8.out.bel HN.out) HNQ.out HK8.out.res ?_ ?_
        · intro c2 w2 hd hc2 hb2
          have HOK := Lib.hid (recM_ok (k := i) (m := mi) (q := ⟨dn, dp, dl⟩) (by rw [HNM.out]; exact HLK2.out) HFEW.out hd)
          have HK2 := Lib.hid (HK8.out.below hb2 (by have := blk_lt HK8.out.res; omega))
          have HU2 := Lib.hid (row_keep hb2 HU8.out)
          obtain ⟨u2, rfl⟩ := hc2.lit
          clear hc2 hb2 hd b0 b1 b2 f3 f4 f5
          simp only [Exit.inBlock, Exit.then]
          apply_assumption
          go_wp2
          refine ⟨⟨i + 1, e4, a4, by omega, by omega, ⟨rfl, rfl, rfl, rfl, rfl, rfl⟩, HK2.out, ?_, ?_⟩, ?_⟩
          · rw [HTK.out, ← List.append_assoc, HUI.out, strsCells_snoc]
            exact HU2.out
          · rw [HST.out, HOK.out, mbind_ok, HTK.out, ents_append, HTL.out, ← List.append_assoc, HMI.out, Nat.zero_add, HNM.out]
            rfl
          · show rs.length - (intOf (.int .i64 ((i : Int) + 1))).toNat < rs.length - (intOf (.int .i64 (i : Int))).toNat
            simp [intOf]; omega
        · intro c2 w2 j hj hd hc2 hr2 hb2
          have HNO := Lib.hid (recM_dup (k := i) (m := mi) (q := ⟨dn, dp, dl⟩) (by rw [HNM.out]; exact HLK2.out) HFEW.out hd hj)
          simp only [Exit.inBlock, Exit.then]
          exact HBAD.out _ _ 13 dl[j].place (by rw [HST.out, HNO.out]; rfl) hc2 hr2 (HK8.out.bel.trans (hb2.mono (Nat.le_succ _)))
      · have HNO := Lib.hid (recM_16 (k := i) (m := mi) (q := ⟨dn, dp, dl⟩) (by rw [HNM.out]; exact HLK2.out) (decide_eq_false hfew).symm)
        have hor : ¬ i < 16 ∨ (i < 16 ∧ dl.length < 1) ∨ (i < 16 ∧ ¬ dl.length < 1 ∧ 16 < dl.length) := by omega
        clear hfew
        rcases hor with hbad | ⟨hb1, hbad⟩ | ⟨hb1, hb2, hbad⟩
        all_goals
          go_wp2_with fail
          go_region
          all_goals
            simp only [Exit.then]
            apply_assumption
            go_wp2
            exact HBAD.out _ _ 16 dp (by rw [HST.out, HNO.out]; rfl) ⟨rfl, rfl, rfl, rfl, rfl⟩ HK8.out.res.put (bel_put HK8.out.bel (Nat.le_succ _) _ _ _).drew
    · have HNO := Lib.hid (recM_13 (k := i) (m := mi) (q := ⟨dn, dp, dl⟩) (by rw [HNM.out]; exact HLK.out.trans htk))
      clear htk
      go_wp2_with fail
      go_region
      all_goals
        simp only [Exit.then]
        apply_assumption
        go_wp2
        exact HBAD.out _ _ 13 dp (by rw [HST.out, HNO.out]; rfl) ⟨rfl, rfl, rfl, rfl, rfl⟩ HK3.out.res.put (bel_put HK3.out.bel (Nat.le_succ _) _ _ _).drew
  · obtain rfl : i = rs.length := by omega
    clear hlt
    go_wp2
    refine HQ.out _ _ _ _ (m0 ++ entsOf 13 0 ((recNms rs).take rs.length)) ?_ hlim ⟨rfl, rfl, rfl, rfl, rfl, rfl⟩ HK.out ?_
    · rw [HCH.out, show (rs.map Prod.fst).drop rs.length = [] from List.drop_eq_nil_of_le (by simp)]
      rfl
    · have := HU.out
      rw [show (recNms rs).take rs.length = recNms rs by rw [← recNms_len, List.take_length]] at this
      exact this
end Go.Proofs.YtleclhnlojalbaaGreatDoor
namespace Go.Proofs.YtleclhnlojalbaaGreatDoor
open Go.ChangeShapes Go.WideShapes Go.ChangeAt Go.RowKit Go.Shelf

def RmC2At (q S i T : Nat) (name : Value) (l : List Tok) (w0 : World) (c' : Act) (w' : World) : Prop :=
  ∃ (k : Nat) (nv : Value), k ≤ l.length ∧ RmC2 q S i T k c' ∧ Below T w0 w' ∧ w'.heap[T]? = some (.cells #[name, nv] 60 (0, 0)) ∧ w'.ownsRow (T + 1) 9 1 nv k (strsCells ((l.take k).map tokT))
set_option maxRecDepth 100000 in
set_option maxHeartbeats 8000000 in
theorem rmc2_wp {Q : Exit → Act → World → Prop} {c : Act} {w w0 : World} {rb S i T : Nat} {name : Value} {rs : List (RRec × Value)} {re : List (RCho × Value)} {rt : List Tok} {sv ev rv : Value} (h : RawRows rb w rs re rt sv ev rv) (hc : RmC2 w.heap.size S i T 0 c) (hk : RmKeep w sv ev rv w0)
    (hi : i < re.length) (hT : w0.heap[T]? = some (.cells #[name, .slice none 0 0] 60 (0, 0))) (hTq : w.heap.size + 2 ≤ T) (hlen : re[i].1.names.length ≤ 100)
    (hQ : ∀ c' w' nv, RmC2 w.heap.size S i T re[i].1.names.length c' → Below T w0 w' → w'.heap[T]? = some (.cells #[name, nv] 60 (0, 0)) → w'.ownsRow (T + 1) 9 1 nv re[i].1.names.length (strsCells (re[i].1.names.map tokT)) → Q (.exit 14) c' w') :
    Code.wp Tryz.prog (Code.loop (loopsRm 7)) Q c w0 := by
  obtain ⟨sa, sc, ea, ec, ra, rc, rfl, rfl, rfl⟩ := h.forms
  have hfe := row_few h.enums
  obtain ⟨g, cc, hv, hcc, hg, hcell⟩ := row_el choCells 3 (fun _ => rfl) h.enums i hi
  obtain ⟨rfl, rfl⟩ := slice_inj hv
  have hn := h.names _ (List.getElem_mem hi)
  obtain ⟨na, nc, hnv⟩ := ownsRow_form hn
  have x2 : w.cell? ⟨g, i * 3 + 2, none⟩ = some (.slice na re[i].1.names.length nc) := by rw [← hnv]; exact hcell 2 (by omega)
  rw [hnv] at hn
  generalize re[i].1.names = l at *
  have hii : (i : Int) < re.length := by omega
  have HX2 := Lib.hid x2
  have HN := Lib.hid hn
  clear h hv hcell hnv x2 hn
  refine wp_loop (RmC2At w.heap.size S i T name l w0) (fun c' _ => l.length - (intOf (c'.tmps.getD 17 undef)).toNat) ⟨0, _, Nat.zero_le _, hc, Below.refl _ _, hT, World.ownsRow_nil _ _ _ _⟩ ?_
  clear hc hT
  rintro c wr ⟨k, nv, hkl, hc, hb, hC, hrow⟩
  have HQ := Lib.hid hQ
  have HB := Lib.hid hb
  have HCB := Lib.hid hC
  have HROW := Lib.hid hrow
  have HKR := Lib.hid (hk.below hb hTq)
  have hbw := HKR.out.bel
  have x2 : wr.cell? ⟨g, i * 3 + 2, none⟩ = some (.slice na l.length nc) := (hbw.cell (p := ⟨g, i * 3 + 2, none⟩) hg).trans HX2.out
  have HNR := Lib.hid (row_keep hbw HN.out)
  obtain ⟨_, p0, p1, p2, _⟩ := blk3 HKR.out.raw
  obtain ⟨u, rfl⟩ := hc.lit
  obtain ⟨nva, nvc, rfl⟩ := ownsRow_form hrow
  obtain ⟨hCl, c0', c1', f0, f1⟩ := blk2 hC
  have hfn := row_few HNR.out
  have hfr := row_few hrow
  clear hc hQ hb hC hrow hbw hk
  conv => arg 2; whnf
  by_cases hlt : k < l.length
  · obtain ⟨gn, cn, hvn, hcn, hgn, hcelln⟩ := row_el tokCells 3 (fun _ => rfl) HNR.out k hlt
    obtain ⟨rfl, rfl⟩ := slice_inj hvn
    have y1 : wr.cell? ⟨gn, k * 3 + 1, none⟩ = some (.string (tokT l[k])) := hcelln 1 (by omega)
    have HTS := Lib.hid (take_snoc_map tokT l k hlt)
    generalize tokT l[k] = t at *
    have hki : (k : Int) < l.length := by omega
    obtain ⟨i0, hi0, hzz0, hzz1, hzz2⟩ := info_parts str_info
    have I1 := Lib.hid hi0
    have I2 := Lib.hid hzz0
    have I3 := Lib.hid hzz1
    have I4 := Lib.hid hzz2
    clear hvn hcelln hi0 hzz0 hzz1 hzz2 p0 p2
    go_upto_region 44 with (fail)
    have hBA : Below wr.heap.size wr (wr.drew.alloc (.cells #[.string t] 9)) := (Below.refl _ wr).drew.alloc (Nat.le_refl _) _
    have HBA := Lib.hid hBA
    clear hBA
    refine wp_region_noPanic ?_
    go_region_law (first | (refine step_append_lies _ rfl (.tmp 201) (.tmp 212) 36 rfl (T + 1) 9 i0 _ 1 16 Tryz.underlying36 I1.out I2.out I3.out I4.out rfl (by decide) _ k (strsCells ((l.take k).map tokT)) rfl (row_keep HBA.out HROW.out) _ 1 1 [.string t] rfl rfl (World.news_of_block (heap_alloc_new _ _)) (by intro u hu; rw [List.mem_singleton.1 hu]; rfl) (by decide) (by unfold maxLen; omega) (by omega) (by simp; omega) _ rfl ?_; rintro g4 c4 W8 hown4 hg4 hat4 hlt4; obtain ⟨s1, s2, s3, s4⟩ := step2 HB.out HCB.out HROW.out HBA.out hg4 hown4; obtain ⟨_, d0, d1, e0, e1⟩ := blk2 s4; have S1 := Lib.hid s1; have S2 := Lib.hid s2; have S3 := Lib.hid s3; clear s1 s2 s3 s4 hown4 hg4 hat4))
    all_goals
      refine NoPanic.normal ?_
      simp only [Exit.inBlock, Exit.then]
      apply_assumption
      go_wp2
      refine ⟨⟨k + 1, _, by omega, ⟨rfl, rfl, rfl, rfl, rfl, rfl, rfl, rfl⟩, S1.out, S2.out, by rw [HTS.out, strsCells_snoc]; exact S3.out⟩, ?_⟩
      show l.length - (intOf (.int .i64 ((k : Int) + 1))).toNat < l.length - (intOf (.int .i64 (k : Int))).toNat
      simp [intOf]; omega
  · obtain rfl : k = l.length := by omega
    clear hlt
    go_wp2
    exact HQ.out _ _ _ ⟨rfl, rfl, rfl, rfl, rfl, rfl, rfl, rfl⟩ HB.out HCB.out (by have h := HROW.out; rw [List.take_length] at h; exact h)
end Go.Proofs.YtleclhnlojalbaaGreatDoor
namespace Go.Proofs.YtleclhnlojalbaaGreatDoor
open Go.ChangeShapes Go.WideShapes Go.ChangeAt Go.RowKit Go.Shelf

def RmCAt (w : World) (sv ev rv : Value) (re : List (RCho × Value)) (S : Nat) (c' : Act) (w' : World) : Prop :=
  ∃ (i : Nat) (es : List (SCho × Value)) (esv : Value), i ≤ re.length ∧ RmC w.heap.size S i c' ∧ RmKeep w sv ev rv w' ∧ SchAt S w' [] es (.slice none 0 0) esv 0 ∧ es.map Prod.fst = (re.take i).map (fun p => choOut p.1)
set_option maxRecDepth 100000 in
set_option maxHeartbeats 8000000 in
theorem rmc_wp {Q : Exit → Act → World → Prop} {c : Act} {w w0 : World} {rb S : Nat} {rs : List (RRec × Value)} {re : List (RCho × Value)} {rt : List Tok} {sv ev rv : Value} (h : RawRows rb w rs re rt sv ev rv) (hc : RmC w.heap.size S 0 c) (hk : RmKeep w sv ev rv w0)
    (hs : SchAt S w0 [] [] (.slice none 0 0) (.slice none 0 0) 0) (hSq : w.heap.size + 2 ≤ S) (hlen : ∀ p ∈ re, p.1.names.length ≤ 100) (hl8 : re.length ≤ 8)
    (hQ : ∀ c' w' es esv, RmC w.heap.size S re.length c' → RmKeep w sv ev rv w' → SchAt S w' [] es (.slice none 0 0) esv 0 → es.map Prod.fst = (re.map Prod.fst).map choOut → Q (.exit 12) c' w') :
    Code.wp Tryz.prog (Code.loop (loopsRm 6)) Q c w0 := by
  refine wp_loop (RmCAt w sv ev rv re S) (fun c' _ => re.length - (intOf (c'.tmps.getD 15 undef)).toNat) ⟨0, [], _, Nat.zero_le _, hc, hk, hs, rfl⟩ ?_
  clear hc hk hs
  rintro c wr ⟨i, es, esv, hi, hc, hk, hs, hes⟩
  have HRAW := Lib.hid h
  have HQ := Lib.hid hQ
  have HK := Lib.hid hk
  have HS := Lib.hid hs
  have HES := Lib.hid hes
  have HL := Lib.hid hlen
  have hesl : es.length ≤ 8 := by have := congrArg List.length hes; simp at this; omega
  obtain ⟨sa, sc, ea, ec, ra, rc, rfl, rfl, rfl⟩ := h.forms
  have hfe := row_few h.enums
  obtain ⟨u, rfl⟩ := hc.lit
  obtain ⟨_, p0, p1, p2, _⟩ := blk3 hk.raw
  have hbl : S < wr.heap.size := blk_lt hs.blk
  clear hc hQ hk hs hes h hlen
  conv => arg 2; whnf
  by_cases hlt : i < re.length
  · obtain ⟨g, cc, hv, hcc, hg, hcell⟩ := row_el choCells 3 (fun _ => rfl) (row_keep HK.out.bel HRAW.out.enums) i hlt
    obtain ⟨rfl, rfl⟩ := slice_inj hv
    have x0 : wr.cell? ⟨g, i * 3, none⟩ = some (.string (strOfNums re[i].1.name)) := hcell 0 (by omega)
    have HTK := Lib.hid (show (re.take (i + 1)).map (fun p => choOut p.1) = (re.take i).map (fun p => choOut p.1) ++ [choOut re[i].1] by
      rw [List.take_succ_eq_append_getElem hlt, List.map_append]; rfl)
    have HCO := Lib.hid (show choOut re[i].1 = ⟨strOfNums re[i].1.name, re[i].1.names.map tokT⟩ from rfl)
    have HLE := Lib.hid (HL.out _ (List.getElem_mem hlt))
    have hii : (i : Int) < re.length := by omega
    generalize hnm : strOfNums re[i].1.name = nm at *
    have hbt : Below wr.heap.size wr (wr.alloc (.cells #[.string nm, .slice none 0 0] 60)) := (Below.refl _ _).alloc (Nat.le_refl _) _
    have HBT := Lib.hid hbt
    have HT := Lib.hid (heap_alloc_new wr (.cells #[.string nm, .slice none 0 0] 60))
    have HKT := Lib.hid (HK.out.below hbt (by omega))
    clear hv hcell hbt hnm
    go_upto_region 41 with (fail)
    generalize wr.alloc (.cells #[.string nm, .slice none 0 0] 60) = Wt at *
    clear x0 p0 p1 p2
    go_wp2_with fail
    refine rmc2_wp (i := i) (T := wr.heap.size) HRAW.out ⟨rfl, rfl, rfl, rfl, rfl, rfl, rfl, rfl⟩ HKT.out hlt HT.out (by omega) HLE.out ?_
    intro c2 w2 nv hf hbel hC2 hrow2
    generalize hln : re[i].1.names.length = ln at *
    have HLN := Lib.hid hln
    obtain ⟨nva, nvc, rfl⟩ := ownsRow_form hrow2
    have hb3 : Below wr.heap.size wr w2 := HBT.out.trans (hbel.mono (by have := HBT.out.size; omega))
    have hs2 := HS.out.below hb3
    have HS2 := Lib.hid hs2
    have HK2 := Lib.hid (HK.out.below hb3 (by omega))
    have HROW := Lib.hid hrow2
    obtain ⟨_, z0, z1, z2, f0, f1, f2⟩ := blk3 hs2.blk
    obtain ⟨hCl, d0, d1, _⟩ := blk2 hC2
    obtain ⟨eva, evc, rfl⟩ := ownsRow_form hs2.rows.enums
    obtain ⟨i0, hi0, hzz0, hzz1, hzz2⟩ := info_parts scho_info
    have I1 := Lib.hid hi0
    have I2 := Lib.hid hzz0
    have I3 := Lib.hid hzz1
    have I4 := Lib.hid hzz2
    have hbs : S < w2.heap.size := blk_lt hs2.blk
    have HBN := Lib.hid (heap_alloc_new w2 (.cells #[.string nm, .slice nva ln nvc] 60))
    have HBA := Lib.hid ((Below.refl w2.heap.size w2).alloc (Nat.le_refl _) (.cells #[.string nm, .slice nva ln nvc] 60))
    obtain ⟨u2, rfl⟩ := hf.lit
    clear hf hbel hC2 hrow2 hb3 hs2 hi0 hzz0 hzz1 hzz2 HS HK hln
    simp only [Exit.inBlock, Exit.then]
    apply_assumption
    go_wp2_with (at_builtin; refine wpList_append_own _ rfl (.tmp 216) (.tmp 218) 30 rfl (S + 1) 60 i0 _ 2 40 Tryz.underlying30 I1.out I2.out I3.out I4.out rfl (by decide) _ es.length (schosCells es) rfl (row_keep HBA.out HS2.out.rows.enums) _ 1 1 [.string nm, .slice nva ln nvc] rfl rfl (World.news_of_block HBN.out) (by intro u hu; simp at hu; rcases hu with rfl | rfl <;> rfl) (by unfold maxLen; omega) (by omega) (by simp; omega) ?_; intro v4 W8 hown4 hg4 hx; clear hx; obtain ⟨a4, m4, rfl⟩ := ownsRow_form hown4; have s5 := SchAt.enum (q := (⟨nm, re[i].1.names.map tokT⟩, .slice nva ln nvc)) (HS2.out.below HBA.out) (by have h := ownsRow_base (row_keep HBA.out HROW.out) (show S + 1 ≤ wr.heap.size + 1 by omega); show World.ownsRow _ _ _ _ _ (re[i].1.names.map tokT).length (strsCells (re[i].1.names.map tokT)); rw [List.length_map, HLN.out]; exact h) hg4 hown4; have s4 : W8.heap[S]? = some (.cells #[.slice none 0 0, .slice eva es.length evc, .int .i64 0] 32 (0, 0)) := (hg4.block S (by simp; omega) (fun e => by have := (ownsRow_lt HS2.out.rows.enums _ e.symm).1; omega)).trans (HS2.out.below HBA.out).blk; obtain ⟨_, p0, p1, p2, q0, q1, q2⟩ := blk3 s4; have S5 := Lib.hid s5; have S6 := Lib.hid (bel_app HBA.out hbs hg4 (fun k hk => by have := (ownsRow_lt HS2.out.rows.enums k hk).1; omega) 1 (.slice a4 (es.length + 1) m4)); clear s5 s4 hown4 hg4)
    refine ⟨⟨i + 1, _, _, by omega, ⟨rfl, rfl, rfl, rfl, rfl, rfl⟩, HK2.out.below S6.out (by omega), S5.out, by rw [List.map_append, HES.out, HTK.out, HCO.out]; rfl⟩, ?_⟩
    show re.length - (intOf (.int .i64 ((i : Int) + 1))).toNat < re.length - (intOf (.int .i64 (i : Int))).toNat
    simp [intOf]; omega
  · obtain rfl : i = re.length := by omega
    clear hlt
    go_wp2
    exact HQ.out _ _ _ _ ⟨rfl, rfl, rfl, rfl, rfl, rfl⟩ HK.out HS.out (by rw [HES.out, List.take_length, List.map_map]; rfl)
end Go.Proofs.YtleclhnlojalbaaGreatDoor
