/-
  The law LayoutWords returns true for every plan and kind: a walk over the callees' contracts. Condition: the listed widths lie as the row lists them.
-/
import Derived.Test.YtcbkdohahfjbfaaDoorLayEach
import Derived.Test.YtcbkdohahfjbfaaDoorLayAwake
import Derived.Test.YtcbkdohahfjbfaaDoorLayRWords
namespace Go.Proofs.YtcbkdohahfjbfaaDoor
open Go.ChangeShapes Go.WideShapes Go.ChangeAt Go.RowKit Go.Shelf

set_option maxRecDepth 100000 in
set_option maxHeartbeats 4000000 in
theorem words1_any (W : World) (r : SRec) (sa : Option Addr) (sn sc : Nat) (ea : Option Addr) (en ec : Nat) (rt : Int) (fv : Value) (base : Nat) (hT : WTab W) (hR : RecOk r) (hrow : W.ownsRow base 52 5 fv r.fields.length (sfldsCells r.fields)) :
    Calls Tryd.prog 12 #[.agg #[.slice sa sn sc, .slice ea en ec, .int .i64 rt], .agg #[.string r.name, fv]] W fun e w' => e = .returned (.bool true) ∧ Below W.heap.size W w' := by
  obtain ⟨fa, fc, rfl⟩ := ownsRow_form hrow
  obtain ⟨hb, hq1, hq2⟩ := two_start W #[.slice sa sn sc, .slice ea en ec, .int .i64 rt] #[.string r.name, .slice fa r.fields.length fc] 33 36
  have HB := Lib.hid hb
  have HQ2 := Lib.hid hq2
  have HROW := Lib.hid (row_keep hb hrow)
  have HT := Lib.hid (hT.below hb)
  have HR := Lib.hid hR
  have hn := hR.2.1
  clear hb hq1 hq2 hrow hT hR
  go_enter Tryd.func12, Tryd.ntmps12
  go_upto_region 1 with (fail)
  generalize ((W.alloc (.cells #[.slice sa sn sc, .slice ea en ec, .int .i64 rt] 33)).alloc (.cells #[.string r.name, .slice fa r.fields.length fc] 36)) = W0 at *
  obtain ⟨_, z0, z1, _⟩ := blk2 HQ2.out
  go_wp2_with fail
  refine (words_any W0 r.name r.fields _ _ HROW.out (by omega) HT.out).mono ?_
  rintro e W1 ⟨v, rfl, hrow1, hb1⟩
  obtain ⟨va, vc, rfl⟩ := ownsRow_form hrow1
  have HB1 := Lib.hid (HB.out.trans (hb1.mono HB.out.size))
  have HR1 := Lib.hid hrow1
  have HF1 := Lib.hid (row_keep hb1 HROW.out)
  have HQ3 := Lib.hid (blk_below HQ2.out hb1 (blk_lt HQ2.out))
  clear hrow1 hb1 z0 z1
  go_upto_region 2 with (fail)
  have hba : Below W1.heap.size W1 (W1.alloc (.cells #[.int .i64 (wordsP r.fields), .int .i64 (ptrsP r.fields), .slice va r.fields.length vc] 39)) := (Below.refl _ _).alloc (Nat.le_refl _) _
  have HP := Lib.hid (heap_alloc_new W1 (.cells #[.int .i64 (wordsP r.fields), .int .i64 (ptrsP r.fields), .slice va r.fields.length vc] 39))
  have HB2 := Lib.hid (HB1.out.trans (hba.mono HB1.out.size))
  have HR2 := Lib.hid (row_keep hba HR1.out)
  have HF2 := Lib.hid (row_keep hba HF1.out)
  have HQ4 := Lib.hid (blk_below HQ3.out hba (blk_lt HQ3.out))
  clear hba
  generalize W1.alloc (.cells #[.int .i64 (wordsP r.fields), .int .i64 (ptrsP r.fields), .slice va r.fields.length vc] 39) = W2 at *
  obtain ⟨_, z0, z1, _⟩ := blk2 HQ4.out
  go_wp2_with fail
  refine (rwords_any W2 r.name r.fields _ _ HF2.out (by omega) (fun f hf => by have := (HR.out.2.2 f hf).2; omega)).mono ?_
  rintro e W3 ⟨u, rfl, hrow3, hb3⟩
  obtain ⟨ua, uc, rfl⟩ := ownsRow_form hrow3
  have HB3 := Lib.hid (HB2.out.trans (hb3.mono HB2.out.size))
  have HR3 := Lib.hid (row_keep hb3 HR2.out)
  have HU3 := Lib.hid hrow3
  have HP3 := Lib.hid (blk_below HP.out hb3 (blk_lt HP.out))
  have HAL := Lib.hid (atP_len r.fields)
  clear hrow3 hb3 z0 z1
  obtain ⟨_, p0, p1, p2, _⟩ := blk3 HP3.out
  generalize wordsP r.fields = ws at *
  generalize ptrsP r.fields = pt at *
  go_wp2_with fail
  refine (sameInts_any (atP r.fields) (atP r.fields) _ _ _ _ W3 (by rw [HAL.out]; exact HR3.out) (by rw [HAL.out]; exact HU3.out)).mono ?_
  rintro e W4 ⟨rfl, hb4⟩
  rw [show decide (atP r.fields = atP r.fields) = true from decide_eq_true rfl]
  have HB4 := Lib.hid (HB3.out.trans (hb4.mono HB3.out.size))
  have HP4 := Lib.hid (blk_below HP3.out hb4 (blk_lt HP3.out))
  clear hb4 p0 p1 p2
  obtain ⟨_, p0, p1, p2, _⟩ := blk3 HP4.out
  go_wp2
  go_ret
  exact ⟨by simp, HB4.out⟩
set_option maxRecDepth 100000 in
theorem layoutWords_walk (p : Plan) {a0 a1 : Option Addr} {n0 e0 n1 c1 : Nat} (k : Int) (w : World) (hp : IsPlan w p a0 n0 e0 a1 n1 c1) (hk : (Lit.int .u8 k).wf = true) (hT : WTab w) :
    Calls Tryd.prog 3 #[.agg #[.slice a0 n0 e0, .slice a1 n1 c1, .int .u8 p.root, .bool p.tree], .int .u8 k] w fun e w' => e = .returned (.bool true) ∧ Below w.heap.size w w' := by
  have bk := bounds_u8 hk
  have HP := Lib.hid hp
  have HT := Lib.hid hT
  have HB0 := Lib.hid ((Below.refl w.heap.size w).alloc (Nat.le_refl _) (.cells #[.slice a0 n0 e0, .slice a1 n1 c1, .int .u8 p.root, .bool p.tree] 25))
  have HZ0 := Lib.hid (heap_alloc_new w (.cells #[.slice a0 n0 e0, .slice a1 n1 c1, .int .u8 p.root, .bool p.tree] 25))
  clear hp hT hk
  go_enter Tryd.func3, Tryd.ntmps3
  go_upto_region 1 with (fail)
  generalize w.alloc (.cells #[.slice a0 n0 e0, .slice a1 n1 c1, .int .u8 p.root, .bool p.tree] 25) = W1 at *
  go_wp2_with fail
  refine (lawake_any W1 (HT.out.below HB0.out)).mono ?_
  rintro e W2 ⟨rfl, hb2⟩
  have HB2 := Lib.hid (HB0.out.trans (hb2.mono HB0.out.size))
  obtain ⟨_, y0, y1, y2, y3⟩ := blk4p (blk_below HZ0.out hb2 (blk_lt HZ0.out))
  clear hb2
  go_wp2_with fail
  refine (lbits_any k W2).mono ?_
  rintro e W3 ⟨rfl, rfl⟩
  go_wp2_with fail
  refine (rbits_any k _ bk.1 bk.2).mono ?_
  rintro e W4 ⟨rfl, rfl⟩
  go_wp2_with fail
  refine (each_any p W4 (HP.out.below HB2.out) 12 #[] ⟨enters_of Tryd.func12 (by kernel_rfl) rfl, fun W r sa sn sc ea en ec rt fv base hb hR hrow => ?_⟩).mono ?_
  · exact words1_any W r sa sn sc ea en ec rt fv base ((HT.out.below HB2.out).below hb) hR hrow
  rintro e W5 ⟨rfl, hb5⟩
  have HB5 := Lib.hid (HB2.out.trans (hb5.mono HB2.out.size))
  clear hb5 y0 y1 y2 y3
  go_wp2
  go_ret
  exact ⟨rfl, HB5.out⟩
end Go.Proofs.YtcbkdohahfjbfaaDoor
