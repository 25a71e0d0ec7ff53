/-
  The law LayoutRows returns true for every plan: a walk over the callees' contracts. Condition: the listed widths lie as the row lists them.
-/
import Derived.Test.YtcbkdohahfjbfaaDoorLayEach
import Derived.Test.YtcbkdohahfjbfaaDoorLayAwake
import Derived.Test.YtcbkdohahfjbfaaDoorLayRRowed
namespace Go.Proofs.YtcbkdohahfjbfaaDoor
open Go.ChangeShapes Go.WideShapes Go.ChangeAt Go.RowKit Go.Shelf

set_option maxRecDepth 100000 in
set_option maxHeartbeats 4000000 in
theorem rows1_any (W : World) (r : SRec) (sa : Option Addr) (sn sc : Nat) (ea : Option Addr) (en ec : Nat) (rt : Int) (fv : Value) (base : Nat) (hR : RecOk r) (hrow : W.ownsRow base 52 5 fv r.fields.length (sfldsCells r.fields)) :
    Calls Tryd.prog 21 #[.agg #[.slice sa sn sc, .slice ea en ec, .int .i64 rt], .agg #[.string r.name, fv]] W fun e w' => e = .returned (.bool true) ∧ Below W.heap.size W w' := by
  obtain ⟨fa, fc, rfl⟩ := ownsRow_form hrow
  obtain ⟨hb, hq1, hq2⟩ := two_start W #[.slice sa sn sc, .slice ea en ec, .int .i64 rt] #[.string r.name, .slice fa r.fields.length fc] 33 36
  have HB := Lib.hid hb
  have HQ2 := Lib.hid hq2
  have HROW := Lib.hid (row_keep hb hrow)
  have HR := Lib.hid hR
  have hn := hR.2.1
  clear hb hq1 hq2 hrow hR
  go_enter Tryd.func21, Tryd.ntmps21
  go_upto_region 1 with (fail)
  generalize ((W.alloc (.cells #[.slice sa sn sc, .slice ea en ec, .int .i64 rt] 33)).alloc (.cells #[.string r.name, .slice fa r.fields.length fc] 36)) = W0 at *
  obtain ⟨_, z0, z1, _⟩ := blk2 HQ2.out
  go_wp2_with fail
  refine (rowed_any W0 r.name r.fields _ _ HROW.out (by omega) HR.out.2.2).mono ?_
  rintro e W1 ⟨v, gv, bv, rfl, hrow1, hgr1, hbt1, hb1⟩
  have HRR := Lib.hid (rrowed_any (nm := r.name) (fs := r.fields) (hn := (by omega : r.fields.length ≤ 1000)) (hk := HR.out.2.2))
  unfold RRoPost at HRR
  generalize rowUp r.fields r.fields.length = st at *
  obtain ⟨va, vc, rfl⟩ := ownsRow_form hrow1
  obtain ⟨ga, gc, rfl⟩ := ownsRow_form hgr1
  obtain ⟨ba, bc, rfl⟩ := ownsRow_form hbt1
  have HB1 := Lib.hid (HB.out.trans (hb1.mono HB.out.size))
  have HF1 := Lib.hid (row_keep hb1 HROW.out)
  have HQ3 := Lib.hid (blk_below HQ2.out hb1 (blk_lt HQ2.out))
  clear z0 z1
  go_upto_region 2 with (fail)
  have hba : Below W1.heap.size W1 (W1.alloc (.cells #[.int .i64 st.size, .slice va st.pl.length vc, .slice ga st.gr.length gc, .slice ba st.bt.length bc] 60)) := (Below.refl _ _).alloc (Nat.le_refl _) _
  have HP := Lib.hid (heap_alloc_new W1 (.cells #[.int .i64 st.size, .slice va st.pl.length vc, .slice ga st.gr.length gc, .slice ba st.bt.length bc] 60))
  have HB2 := Lib.hid (HB1.out.trans (hba.mono HB1.out.size))
  have HR2 := Lib.hid (row_keep hba hrow1)
  have HG2 := Lib.hid (row_keep hba hgr1)
  have HT2 := Lib.hid (row_keep hba hbt1)
  have HF2 := Lib.hid (row_keep hba HF1.out)
  have HQ4 := Lib.hid (blk_below HQ3.out hba (blk_lt HQ3.out))
  clear hba hb1 hrow1 hgr1 hbt1
  generalize W1.alloc (.cells #[.int .i64 st.size, .slice va st.pl.length vc, .slice ga st.gr.length gc, .slice ba st.bt.length bc] 60) = W2 at *
  obtain ⟨_, z0, z1, _⟩ := blk2 HQ4.out
  go_wp2_with fail
  refine (HRR.out W2 _ _ HF2.out).mono ?_
  rintro e W3 ⟨u, hv, bu, rfl, hrow3, hgr3, hbt3, hb3⟩
  obtain ⟨ua, uc, rfl⟩ := ownsRow_form hrow3
  obtain ⟨ha, hc, rfl⟩ := ownsRow_form hgr3
  obtain ⟨ka, kc, rfl⟩ := ownsRow_form hbt3
  have HB3 := Lib.hid (HB2.out.trans (hb3.mono HB2.out.size))
  have HR3 := Lib.hid (row_keep hb3 HR2.out)
  have HG3 := Lib.hid (row_keep hb3 HG2.out)
  have HT3 := Lib.hid (row_keep hb3 HT2.out)
  have HU3 := Lib.hid hrow3
  have HV3 := Lib.hid hgr3
  have HX3 := Lib.hid hbt3
  have HP3 := Lib.hid (blk_below HP.out hb3 (blk_lt HP.out))
  clear hrow3 hgr3 hbt3 hb3 z0 z1
  have p0 := (blk_cell HP3.out 0).trans rfl
  have p1 := (blk_cell HP3.out 1).trans rfl
  go_wp2_with fail
  refine (sameInts_any st.pl st.pl _ _ _ _ W3 HR3.out HU3.out).mono ?_
  rintro e W4 ⟨rfl, hb4⟩
  rw [show decide (st.pl = st.pl) = true from decide_eq_true rfl]
  have HB4 := Lib.hid (HB3.out.trans (hb4.mono HB3.out.size))
  have HP4 := Lib.hid (blk_below HP3.out hb4 (blk_lt HP3.out))
  have HG4 := Lib.hid (row_keep hb4 HG3.out)
  have HT4 := Lib.hid (row_keep hb4 HT3.out)
  have HV4 := Lib.hid (row_keep hb4 HV3.out)
  have HX4 := Lib.hid (row_keep hb4 HX3.out)
  clear hb4 p0 p1
  have p0 := (blk_cell HP4.out 0).trans rfl
  have p2 := (blk_cell HP4.out 2).trans rfl
  go_wp2_with fail
  refine (sameInts_any st.gr st.gr _ _ _ _ W4 HG4.out HV4.out).mono ?_
  rintro e W5 ⟨rfl, hb5⟩
  rw [show decide (st.gr = st.gr) = true from decide_eq_true rfl]
  have HB5 := Lib.hid (HB4.out.trans (hb5.mono HB4.out.size))
  have HP5 := Lib.hid (blk_below HP4.out hb5 (blk_lt HP4.out))
  have HT5 := Lib.hid (row_keep hb5 HT4.out)
  have HX5 := Lib.hid (row_keep hb5 HX4.out)
  clear hb5 p0 p2
  have p3 := (blk_cell HP5.out 3).trans rfl
  go_wp2_with fail
  refine (sameInts_any st.bt st.bt _ _ _ _ W5 HT5.out HX5.out).mono ?_
  rintro e W6 ⟨rfl, hb6⟩
  rw [show decide (st.bt = st.bt) = true from decide_eq_true rfl]
  have HB6 := Lib.hid (HB5.out.trans (hb6.mono HB5.out.size))
  clear hb6 p3
  go_wp2
  go_ret
  exact ⟨by first | rfl | simp, HB6.out⟩
set_option maxRecDepth 100000 in
theorem layoutRows_walk (p : Plan) {a0 a1 : Option Addr} {n0 e0 n1 c1 : Nat} (w : World) (hp : IsPlan w p a0 n0 e0 a1 n1 c1) (hT : WTab w) :
    Calls Tryd.prog 5 #[.agg #[.slice a0 n0 e0, .slice a1 n1 c1, .int .u8 p.root, .bool p.tree]] w fun e w' => e = .returned (.bool true) ∧ Below w.heap.size w w' := by
  have HP := Lib.hid hp
  have HT := Lib.hid hT
  have HB0 := Lib.hid ((Below.refl w.heap.size w).alloc (Nat.le_refl _) (.cells #[.slice a0 n0 e0, .slice a1 n1 c1, .int .u8 p.root, .bool p.tree] 25))
  have HZ0 := Lib.hid (heap_alloc_new w (.cells #[.slice a0 n0 e0, .slice a1 n1 c1, .int .u8 p.root, .bool p.tree] 25))
  clear hp hT
  go_enter Tryd.func5, Tryd.ntmps5
  go_upto_region 1 with (fail)
  generalize w.alloc (.cells #[.slice a0 n0 e0, .slice a1 n1 c1, .int .u8 p.root, .bool p.tree] 25) = W1 at *
  go_wp2_with fail
  refine (lawake_any W1 (HT.out.below HB0.out)).mono ?_
  rintro e W2 ⟨rfl, hb2⟩
  have HB2 := Lib.hid (HB0.out.trans (hb2.mono HB0.out.size))
  obtain ⟨_, y0, y1, y2, y3⟩ := blk4p (blk_below HZ0.out hb2 (blk_lt HZ0.out))
  clear hb2
  go_wp2_with fail
  refine (each_any p W2 (HP.out.below HB2.out) 21 #[] ⟨enters_of Tryd.func21 (by kernel_rfl) rfl, fun W r sa sn sc ea en ec rt fv base hb hR hrow => ?_⟩).mono ?_
  · exact rows1_any W r sa sn sc ea en ec rt fv base hR hrow
  rintro e W5 ⟨rfl, hb5⟩
  have HB5 := Lib.hid (HB2.out.trans (hb5.mono HB2.out.size))
  clear hb5 y0 y1 y2 y3
  go_wp2
  go_ret
  exact ⟨rfl, HB5.out⟩
end Go.Proofs.YtcbkdohahfjbfaaDoor
