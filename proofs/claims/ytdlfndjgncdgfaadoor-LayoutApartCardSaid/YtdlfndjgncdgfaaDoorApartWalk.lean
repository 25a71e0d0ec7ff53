/-
  The law LayoutApart returns true for every plan and mask: a walk over the callees' contracts. Condition: the listed widths and sizes lie as the row lists them.
-/
import Derived.Test.YtdlfndjgncdgfaaDoorApLoops
import Derived.Test.YtdlfndjgncdgfaaDoorLayEach
import Derived.Test.YtdlfndjgncdgfaaDoorLayAwake
namespace Go.Proofs.YtdlfndjgncdgfaaDoor
open Go.ChangeShapes Go.WideShapes Go.ChangeAt Go.RowKit Go.Shelf

theorem bools_one (l : List Bool) : ∀ u ∈ boolCells l, u.oneCell' = true := by
  intro u hu
  rw [boolCells_map] at hu
  obtain ⟨b, _, rfl⟩ := List.mem_map.1 hu
  rfl
theorem bools_len (l : List Bool) : (boolCells l).length = l.length := by rw [boolCells_map, List.length_map]
/-- A row's appended to another's: not nil. -/
theorem app_form {w : World} {base n : Nat} {v' : Value} {L : List Bool} (hn : n = L.length) (h : w.ownsRow base 4 1 v' n (boolCells L)) (hne : ¬ v' = .slice none 0 0) : ∃ g c, v' = .slice (some ⟨g, 0, none⟩) L.length c ∧ w.ownsRow base 4 1 (.slice (some ⟨g, 0, none⟩) L.length c) L.length (boolCells L) := by
  subst hn
  rcases h.2 with ⟨h1, _⟩ | ⟨g, c, _, rfl, _⟩
  · exact absurd h1 hne
  · exact ⟨g, c, rfl, h⟩
theorem all_app {a b : List Bool} (ha : ∀ k, k < a.length → a.getD k false = true) (hb : ∀ k, k < b.length → b.getD k false = true) : ∀ k, k < (a ++ b).length → (a ++ b).getD k false = true := by
  intro k hk
  rw [List.length_append] at hk
  by_cases h : k < a.length
  · rw [List.getD, List.getElem?_append_left h]
    exact ha k h
  · rw [List.getD, List.getElem?_append_right (by omega)]
    exact hb (k - a.length) (by omega)
theorem st_start {w9 w : World} {fs : List SFld} {th : List Bool} {gb gy gr gp nb ny nr np : Nat} (hb : Below w9.heap.size w9 w) (hg : w9.heap.size ≤ gb ∧ w9.heap.size ≤ gy ∧ w9.heap.size ≤ gr ∧ w9.heap.size ≤ gp) (hs : nb ≤ 1000000 ∧ ny ≤ 1000000 ∧ nr ≤ 1000000 ∧ np ≤ 1000000)
    (h1 : w.heap[gb]? = some (.cells (falses nb) 4 (0, 0))) (h2 : w.heap[gy]? = some (.cells (falses ny) 4 (0, 0))) (h3 : w.heap[gr]? = some (.cells (falses nr) 4 (0, 0))) (h4 : w.heap[gp]? = some (.cells (falses np) 4 (0, 0))) :
    ApSt w9 fs th gb gy gr gp nb ny nr np 0 0 w (List.replicate nb false) (List.replicate ny false) (List.replicate nr false) (List.replicate np false) :=
  ⟨hb, falses_row hg.1 hs.1 h1, falses_row hg.2.1 hs.2.1 h2, falses_row hg.2.2.1 hs.2.2.1 h3, falses_row hg.2.2.2 hs.2.2.2 h4, List.length_replicate, List.length_replicate, List.length_replicate, List.length_replicate,
    mark_nil _ _ _ _ (fun _ h => absurd h.1 (Nat.not_lt_zero _)), mark_nil _ _ _ _ (fun _ h => absurd h.1 (Nat.not_lt_zero _)), mark_nil _ _ _ _ (fun _ h => absurd h.1 (Nat.not_lt_zero _)), mark_nil _ _ _ _ (fun _ h => absurd h.1 (Nat.not_lt_zero _))⟩
theorem dims_of (fs : List SFld) (th : List Bool) (h16 : fs.length ≤ 16) : ∃ nb ny nr np : Nat, 64 * wordsP fs = (nb : Int) ∧ (tabAll fs th 4).size = (ny : Int) ∧ (rowUp fs fs.length).size = (nr : Int) ∧ ptrsP fs = (np : Int) ∧ nb ≤ 1000000 ∧ ny ≤ 1000000 ∧ nr ≤ 1000000 ∧ np ≤ 1000000 := by
  have h1 := wAll_bd fs (by omega) 5 (Nat.le_refl _)
  obtain ⟨_, h2, h3, _⟩ := tabAll_facts fs th 4 (Nat.le_refl _)
  obtain ⟨_, h4, h5, _⟩ := rowUp_facts fs fs.length
  have h6 := pUpTo_bd fs ((wAll fs 5).1, 0) fs.length
  have h7 : wordsP fs = ((wAll fs 5).2 + 63) / 64 := rfl
  have h8 : ptrsP fs = (pUpTo fs ((wAll fs 5).1, 0) fs.length).2 := rfl
  simp only at h6
  exact ⟨(64 * wordsP fs).toNat, (tabAll fs th 4).size.toNat, (rowUp fs fs.length).size.toNat, (ptrsP fs).toNat, by omega, by omega, by omega, by omega, by omega, by omega, by omega, by omega⟩
set_option maxRecDepth 100000 in
set_option maxHeartbeats 16000000 in
theorem apart1_any (W : World) (r : SRec) (sa : Option Addr) (sn sc : Nat) (ea : Option Addr) (en ec : Nat) (rt : Int) (fv : Value) (base M : Nat) (mask : Int) (hm : W.cell? ⟨M, 0, none⟩ = some (.int .u32 mask)) (hT : WTab W) (hI : ITab W) (hR : RecOk r) (hrow : W.ownsRow base 53 5 fv r.fields.length (sfldsCells r.fields)) :
    Calls Tryd.prog 11 #[.agg #[.slice sa sn sc, .slice ea en ec, .int .i64 rt], .agg #[.string r.name, fv], .pointer (some ⟨M, 0, none⟩)] W fun e w' => e = .returned (.bool true) ∧ Below W.heap.size W w' := by
  obtain ⟨hl1, hl16, hkinds⟩ := hR
  obtain ⟨fg, fc, rfl, _⟩ := row_at hrow (by omega)
  obtain ⟨hb, hq1, hq2⟩ := two_start W #[.slice sa sn sc, .slice ea en ec, .int .i64 rt] #[.string r.name, .slice (some ⟨fg, 0, none⟩) r.fields.length fc] 32 35
  have HB := Lib.hid hb
  have HQ2 := Lib.hid hq2
  have HROW := Lib.hid (row_keep hb hrow)
  have HT := Lib.hid (hT.below hb)
  have HI := Lib.hid (hI.below hb)
  have HMC := Lib.hid (cell_old hb hm)
  have HKD := Lib.hid hkinds
  clear hb hq1 hq2 hrow hT hI hm hkinds
  go_enter Tryd.func11, Tryd.ntmps11
  go_upto_region 1 with (fail)
  generalize ((W.alloc (.cells #[.slice sa sn sc, .slice ea en ec, .int .i64 rt] 32)).alloc (.cells #[.string r.name, .slice (some ⟨fg, 0, none⟩) r.fields.length fc] 35)) = W0 at *
  obtain ⟨nm, fs⟩ := r
  simp only at hl1 hl16 HROW HQ2 HKD
  obtain ⟨_, z0, z1, _⟩ := blk2 HQ2.out
  refine ap_start (fs := fs) ⟨rfl, rfl, rfl, rfl⟩ z0 z1 (fun W' hb => words_any W' nm fs _ base (row_keep hb HROW.out) (by omega) (HT.out.below hb)) (fun W' hb => rowed_any W' nm fs _ base (row_keep hb HROW.out) (by omega) HKD.out) ?_
  intro c1 W1 X Y xv yv gv bv hc1 hb1 _ _ hX1 hY1 hxr hyr
  obtain ⟨xg, xc, rfl, _⟩ := row_at hxr (by omega)
  rw [(rowUp_facts fs fs.length).1] at hyr
  obtain ⟨yg, yc, rfl, _⟩ := row_at hyr (by omega)
  have HB1 := Lib.hid hb1
  have HX1 := Lib.hid hX1
  have HY1 := Lib.hid hY1
  have HXR := Lib.hid hxr
  have HYR := Lib.hid hyr
  have HR1 := Lib.hid (blk_below HQ2.out hb1 (blk_lt HQ2.out))
  obtain ⟨u1, rfl⟩ := hc1.lit
  clear hc1 hb1 hX1 hY1 hxr hyr z0 z1
  obtain ⟨_, z0, z1, _⟩ := blk2 HR1.out
  have hm1 := cell_old HB1.out HMC.out
  apply_assumption
  go_wp2_with fail
  refine ap_thloop (mask := mask) ⟨rfl, rfl, rfl, rfl, rfl, rfl, rfl, rfl, rfl⟩ hm1 hl16 ?_
  intro c2 W2 th tv hc2 hb2 hth hthr
  rw [hth] at hthr
  obtain ⟨tg, tc, rfl, _⟩ := row_at hthr (by omega)
  rw [← hth] at hthr
  have HTH := Lib.hid hth
  have HTR := Lib.hid hthr
  have HB2 := Lib.hid (HB1.out.trans (hb2.mono HB1.out.size))
  have HR2 := Lib.hid (blk_below HR1.out hb2 (blk_lt HR1.out))
  have HX2 := Lib.hid (blk_below HX1.out hb2 (blk_lt HX1.out))
  have HY2 := Lib.hid (blk_below HY1.out hb2 (blk_lt HY1.out))
  have HXR2 := Lib.hid (row_keep hb2 HXR.out)
  have HYR2 := Lib.hid (row_keep hb2 HYR.out)
  obtain ⟨u2, rfl⟩ := hc2.lit
  clear hc2 hb2 hth hthr z0 z1 hm1
  obtain ⟨_, z0, z1, _⟩ := blk2 HR2.out
  simp only [Exit.inBlock, Exit.then]
  apply_assumption
  have HTP := Lib.hid (tabled_any W2 nm fs _ base (row_keep HB2.out HROW.out) (by omega) th _ _ HTR.out HTH.out (HI.out.below HB2.out))
  unfold TPost at HTP
  rw [HTH.out] at HTP
  go_wp2_with fail
  refine HTP.out.mono ?_
  rintro e W3 ⟨zv, rfl, hzr, hb3⟩
  rw [(t_spans fs th 4 (Nat.le_refl _)).2.1] at hzr
  obtain ⟨zg, zc, rfl, _⟩ := row_at hzr (by omega)
  have HB3 := Lib.hid (HB2.out.trans (hb3.mono HB2.out.size))
  have HR3 := Lib.hid (blk_below HR2.out hb3 (blk_lt HR2.out))
  have HX3 := Lib.hid (blk_below HX2.out hb3 (blk_lt HX2.out))
  have HY3 := Lib.hid (blk_below HY2.out hb3 (blk_lt HY2.out))
  have HXR3 := Lib.hid (row_keep hb3 HXR2.out)
  have HYR3 := Lib.hid (row_keep hb3 HYR2.out)
  have HTR3 := Lib.hid (row_keep hb3 HTR.out)
  have HZR3 := Lib.hid hzr
  clear hzr hb3 z0 z1
  obtain ⟨nb, ny, nr, np, e1, e2, e3, e4, b1, b2, b3, b4⟩ := dims_of fs th hl16
  go_upto_region 9 with (fail)
  have hba : Below W3.heap.size W3 (W3.alloc (.cells #[.slice (some ⟨zg, 0, none⟩) fs.length zc, .int .i64 (ny : Int), .int .i64 (tabAll fs th 4).al] 45)) := (Below.refl _ _).alloc (Nat.le_refl _) _
  have HZ := Lib.hid (heap_alloc_new W3 (.cells #[.slice (some ⟨zg, 0, none⟩) fs.length zc, .int .i64 (ny : Int), .int .i64 (tabAll fs th 4).al] 45))
  have HB9 := Lib.hid (HB3.out.trans (hba.mono HB3.out.size))
  have HR9 := Lib.hid (blk_below HR3.out hba (blk_lt HR3.out))
  have HX9 := Lib.hid (blk_below HX3.out hba (blk_lt HX3.out))
  have HY9 := Lib.hid (blk_below HY3.out hba (blk_lt HY3.out))
  have HXR9 := Lib.hid (row_keep hba HXR3.out)
  have HYR9 := Lib.hid (row_keep hba HYR3.out)
  have HTR9 := Lib.hid (row_keep hba HTR3.out)
  have HZR9 := Lib.hid (row_keep hba HZR3.out)
  generalize W3.alloc (.cells #[.slice (some ⟨zg, 0, none⟩) fs.length zc, .int .i64 (ny : Int), .int .i64 (tabAll fs th 4).al] 45) = W9 at *
  clear hba HB3 HR3 HX3 HY3 HXR3 HYR3 HTR3 HZR3 HR2 HX2 HY2 HXR2 HYR2 HTR HR1 HX1 HY1 HXR HYR HTP
  generalize W3.heap.size = Z at *
  have HCTX : Hid (ApCtx W9 fs th X Y Z xg xc yg yc zg zc tg tc) := Lib.hid ⟨hl16, HKD.out, HTH.out, ⟨_, _, HX9.out⟩, ⟨_, _, _, HY9.out⟩, ⟨_, _, HZ.out⟩, ⟨_, by rw [atP_len]; exact HXR9.out⟩, ⟨_, by rw [(rowUp_facts fs fs.length).1]; exact HYR9.out⟩, ⟨_, by rw [(t_spans fs th 4 (Nat.le_refl _)).2.1]; exact HZR9.out⟩, ⟨_, by have h := HTR9.out; rw [HTH.out] at h ⊢; exact h⟩⟩
  have E1 := Lib.hid e1
  have E2 := Lib.hid e2
  have E3 := Lib.hid e3
  have E4 := Lib.hid e4
  clear e1 e2 e3 e4
  have x0 : W9.cell? ⟨X, 0, none⟩ = some (.int .i64 (wordsP fs)) := (blk_cell HX9.out 0).trans rfl
  have x1 : W9.cell? ⟨X, 1, none⟩ = some (.int .i64 (np : Int)) := by rw [← E4.out]; exact (blk_cell HX9.out 1).trans rfl
  have y0 : W9.cell? ⟨Y, 0, none⟩ = some (.int .i64 (nr : Int)) := by rw [← E3.out]; exact (blk_cell HY9.out 0).trans rfl
  have zz : W9.cell? ⟨Z, 1, none⟩ = some (.int .i64 (ny : Int)) := (blk_cell HZ.out 1).trans rfl
  refine ap_makes ⟨rfl, rfl, rfl, rfl, rfl, rfl, rfl, rfl⟩ x0 x1 y0 zz E1.out b1 b2 b3 b4 ?_
  intro c4 W4 gb gy gr gp hc4 hb4 hge hne h1 h2 h3 h4
  have HD : Hid (ApDim fs th gb gy gr gp nb ny nr np) := Lib.hid ⟨hne, E1.out, E2.out, E3.out, E4.out, ⟨b1, b2, b3, b4⟩⟩
  have HS4 := Lib.hid (st_start (fs := fs) (th := th) hb4 hge ⟨b1, b2, b3, b4⟩ h1 h2 h3 h4)
  have HR4 := Lib.hid (blk_below HR9.out hb4 (blk_lt HR9.out))
  obtain ⟨u4, rfl⟩ := hc4.lit
  clear hc4 hb4 hge hne h1 h2 h3 h4 x0 x1 y0 zz
  obtain ⟨_, z0, z1, _⟩ := blk2 HR4.out
  apply_assumption
  go_wp2_with fail
  refine ap_fieldloop HCTX.out HD.out (row_keep HB9.out HROW.out) ⟨rfl, rfl, rfl, rfl, rfl, rfl, rfl, rfl, rfl, rfl, rfl, rfl, rfl, rfl⟩ HS4.out ?_
  intro c5 W5 lb ly lr lp hc5 hs5
  have HS5 := Lib.hid hs5
  obtain ⟨u5, rfl⟩ := hc5.lit
  clear hc5 hs5 z0 z1
  simp only [Exit.inBlock, Exit.then]
  apply_assumption
  have hrl := HS5.out.rl
  have hpl := HS5.out.pl
  have hL : lr.length + np = (lr ++ lp).length := by rw [List.length_append]; omega
  have hcells : boolCells lr ++ boolCells lp = boolCells (lr ++ lp) := by rw [boolCells_map, boolCells_map, boolCells_map, List.map_append]
  have hall := all_app (mark_all (row_spans fs fs.length (Nat.le_refl _)) trivial (by rw [E3.out, hrl]) (fun _ h => h) HS5.out.mr) (mark_all (ptr_spans fs).1 trivial (by rw [E4.out, hpl]) (fun _ h => h) HS5.out.mp)
  generalize lr ++ lp = L at *
  obtain ⟨i0, hi0, hzz0, hzz1, hzz2⟩ := info_parts bool_infoA
  have I1 := Lib.hid hi0
  have I2 := Lib.hid hzz0
  have I3 := Lib.hid hzz1
  have I4 := Lib.hid hzz2
  have HL := Lib.hid hL
  have HC := Lib.hid hcells
  have HALL := Lib.hid hall
  have HBY := Lib.hid HS5.out.below
  have HW9 := Lib.hid HS5.out.below.size
  have h1m : lr.length ≤ 1000000 := by omega
  clear hi0 hzz0 hzz1 hzz2 hL hcells hall hrl hpl
  go_wp2_with (at_builtin; refine wpList_append_own _ rfl (.tmp 165) (.tmp 166) 43 rfl W9.heap.size 4 i0 _ 1 1 Tryd.underlying43 I1.out I2.out I3.out I4.out rfl (by decide) _ lr.length (boolCells lr) rfl HS5.out.r ⟨gp, 0, none⟩ np np (boolCells lp) rfl (by rw [bools_len, HS5.out.pl, Nat.mul_one]) (HS5.out.p.cells rfl) (bools_one lp) (by unfold maxLen; omega) (by omega) HW9.out ?_; intro v4 W6 hown4 hg4 hnil; obtain ⟨g6, c6, rfl, hrow6⟩ := app_form HL.out (by rw [HC.out] at hown4; exact hown4) (fun h => by have := (hnil.1 h).1; cases this); have hb6 : Below W9.heap.size W9 W6 := HBY.out.grown hg4 HW9.out (fun k hk => (HS5.out.r.lt k hk).1); have HB6 := Lib.hid hb6; have HROW6 := Lib.hid hrow6; clear hown4 hg4 hnil hrow6 hb6)
  refine ap_endloop (l := L) ⟨rfl, rfl, rfl, rfl, rfl⟩ HROW6.out HALL.out ?_
  intro c7 hc7
  obtain ⟨u7, rfl⟩ := hc7.lit
  clear hc7
  simp only [Exit.inBlock, Exit.then]
  apply_assumption
  go_wp2
  go_ret
  exact ⟨rfl, HB.out.trans ((HB9.out.trans (HB6.out.mono HB9.out.size)).mono HB.out.size)⟩
set_option maxRecDepth 100000 in
theorem layoutApart_walk (p : Plan) {a0 a1 : Option Addr} {n0 e0 n1 c1 : Nat} (mask : Int) (w : World) (hp : IsPlan w p a0 n0 e0 a1 n1 c1) (_hm : (Lit.int .u32 mask).wf = true) (hT : WTab w) (hI : ITab w) :
    Calls Tryd.prog 3 #[.agg #[.slice a0 n0 e0, .slice a1 n1 c1, .int .u8 p.root, .bool p.tree], .int .u32 mask] w fun e w' => e = .returned (.bool true) ∧ Below w.heap.size w w' := by
  have HP := Lib.hid hp
  have HT := Lib.hid hT
  have HI := Lib.hid hI
  obtain ⟨hb0, hz0, hz1⟩ := two_start w #[.slice a0 n0 e0, .slice a1 n1 c1, .int .u8 p.root, .bool p.tree] #[.int .u32 mask] 25 26
  have HB0 := Lib.hid hb0
  have HZ0 := Lib.hid hz0
  have HZ1 := Lib.hid hz1
  clear hp hT hI hb0 hz0 hz1
  go_enter Tryd.func3, Tryd.ntmps3
  go_upto_region 1 with (fail)
  generalize (w.alloc (.cells #[.slice a0 n0 e0, .slice a1 n1 c1, .int .u8 p.root, .bool p.tree] 25)).alloc (.cells #[.int .u32 mask] 26) = W1 at *
  go_wp2_with fail
  refine (lawake_any W1 (HT.out.below HB0.out)).mono ?_
  rintro e W2 ⟨rfl, hb2⟩
  have HB2 := Lib.hid (HB0.out.trans (hb2.mono HB0.out.size))
  obtain ⟨_, y0, y1, y2, y3⟩ := blk4p (blk_below HZ0.out hb2 (blk_lt HZ0.out))
  have hm2 := (blk_cell (blk_below HZ1.out hb2 (blk_lt HZ1.out)) 0).trans rfl
  have hml := World.block_lt_of_cell? _ _ hm2
  have HM2 := Lib.hid (fun W (hb : Below W2.heap.size W2 W) => (hb.cell (p := ⟨w.heap.size + 1, 0, none⟩) hml).trans hm2)
  have hmf : ∀ (fn : Fn) (first cap : Array Value) (w : World), (Instr.makeFunc fn first cap).run Tryd.prog w = .ok (.func fn first cap) w := fun _ _ _ _ => rfl
  clear hb2 hm2 hml
  go_wp2_with fail
  refine (each_any p W2 (HP.out.below HB2.out) 11 #[.pointer (some ⟨w.heap.size + 1, 0, none⟩)] ⟨enters_of Tryd.func11 (by kernel_rfl) rfl, fun W r sa sn sc ea en ec rt fv base hb hR hrow => ?_⟩).mono ?_
  · exact apart1_any W r sa sn sc ea en ec rt fv base _ mask (HM2.out W hb) ((HT.out.below HB2.out).below hb) ((HI.out.below HB2.out).below hb) hR hrow
  rintro e W5 ⟨rfl, hb5⟩
  have HB5 := Lib.hid (HB2.out.trans (hb5.mono HB2.out.size))
  clear hb5 y0 y1 y2 y3
  go_wp2
  go_ret
  exact ⟨rfl, HB5.out⟩
end Go.Proofs.YtdlfndjgncdgfaaDoor
