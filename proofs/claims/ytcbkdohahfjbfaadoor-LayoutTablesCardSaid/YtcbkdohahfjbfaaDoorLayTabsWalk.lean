/-
  The law LayoutTables returns true for every plan and mask: a walk over the callees' contracts. Condition: the listed widths and sizes lie as the row lists them.
-/
import Derived.Test.YtcbkdohahfjbfaaDoorLayEach
import Derived.Test.YtcbkdohahfjbfaaDoorLayAwake
import Derived.Test.YtcbkdohahfjbfaaDoorLayTabled
import Derived.Test.YtcbkdohahfjbfaaDoorLayRTabled
import Derived.Deep.AppendLies
import Derived.OwnWalk
namespace Go.Proofs.YtcbkdohahfjbfaaDoor
open Go.ChangeShapes Go.WideShapes Go.ChangeAt Go.RowKit Go.Shelf

theorem bool_info : (Tryd.prog.info? 4).map (fun i => (i.zero, i.size, i.bytes)) = some (some (.bool false), 1, 1) := by kernel_rfl
/-- Where the loop that lays which fields are there is. -/
def ThAt (W0 : World) (n : Nat) (tv i : Value) (W : World) : Prop :=
  ∃ th : List Bool, th.length ≤ n ∧ i = .int .i64 th.length ∧ Below W0.heap.size W0 W ∧ W.ownsRow W0.heap.size 4 1 tv th.length (boolCells th)
set_option maxRecDepth 100000 in
set_option maxHeartbeats 8000000 in
theorem tabs1_any (W : World) (r : SRec) (sa : Option Addr) (sn sc : Nat) (ea : Option Addr) (en ec : Nat) (rt : Int) (fv : Value) (base M : Nat) (mask : Int) (hm : W.cell? ⟨M, 0, none⟩ = some (.int .u32 mask)) (hT : ITab W) (hR : RecOk r) (hrow : W.ownsRow base 52 5 fv r.fields.length (sfldsCells r.fields)) :
    Calls Tryd.prog 16 #[.agg #[.slice sa sn sc, .slice ea en ec, .int .i64 rt], .agg #[.string r.name, fv], .pointer (some ⟨M, 0, none⟩)] W fun e w' => e = .returned (.bool true) ∧ Below W.heap.size W w' := by
  obtain ⟨fa, fc, rfl⟩ := ownsRow_form hrow
  obtain ⟨hb, hq1, hq2⟩ := two_start W #[.slice sa sn sc, .slice ea en ec, .int .i64 rt] #[.string r.name, .slice fa r.fields.length fc] 33 36
  have hMl := World.block_lt_of_cell? _ _ hm
  have HB := Lib.hid hb
  have HQ2 := Lib.hid hq2
  have HROW := Lib.hid (row_keep hb hrow)
  have HT := Lib.hid (hT.below hb)
  have HR := Lib.hid hR
  have HMC := Lib.hid ((hb.cell (p := ⟨M, 0, none⟩) hMl).trans hm)
  have hn := hR.2.1
  have hlt0 : M < W.heap.size := hMl
  clear hb hq1 hq2 hrow hT hR hm hMl
  go_enter Tryd.func16, Tryd.ntmps16
  go_upto_region 1 with (fail)
  have hlt : M < ((W.alloc (.cells #[.slice sa sn sc, .slice ea en ec, .int .i64 rt] 33)).alloc (.cells #[.string r.name, .slice fa r.fields.length fc] 36)).heap.size := Nat.lt_of_lt_of_le hlt0 HB.out.size
  generalize ((W.alloc (.cells #[.slice sa sn sc, .slice ea en ec, .int .i64 rt] 33)).alloc (.cells #[.string r.name, .slice fa r.fields.length fc] 36)) = W0 at *
  obtain ⟨hBl, z0, z1, _⟩ := blk2 HQ2.out
  go_wp2_with fail
  clear z0 z1
  go_loopw [6, 16] (fun tv i wr => ThAt W0 r.fields.length tv i wr) (fun _ i _ => r.fields.length - (intOf i).toNat)
  case atStart => exact ⟨[], Nat.zero_le _, rfl, Below.refl _ _, World.ownsRow_nil _ _ _ _⟩
  case round =>
    obtain ⟨th, hk, rfl, hb, hth⟩ := hrel
    obtain ⟨ta, tc, rfl⟩ := ownsRow_form hth
    have HBK := Lib.hid hb
    have HTH := Lib.hid hth
    clear hth
    by_cases hkl : th.length < r.fields.length
    · have hki : (th.length : Int) < r.fields.length := by omega
      have hki0 : (0 : Int) ≤ (th.length : Int) := by omega
      obtain ⟨g, cc, hv, hcc, hg, hcell⟩ := row_el sfldCells 5 (fun _ => rfl) (row_keep hb HROW.out) th.length hkl
      obtain ⟨rfl, rfl⟩ := slice_inj hv
      have hkb := HR.out.2.2 r.fields[th.length] (List.getElem_mem hkl)
      have x0 : wr.cell? ⟨g, th.length * 5, none⟩ = some (.string r.fields[th.length].name) := hcell 0 (by omega)
      have x1 : wr.cell? ⟨g, th.length * 5 + 1, none⟩ = some (.int .u8 (r.fields[th.length].kind : Nat)) := hcell 1 (by omega)
      have x2 : wr.cell? ⟨g, th.length * 5 + 2, none⟩ = some (.int .i64 (r.fields[th.length].ref : Nat)) := hcell 2 (by omega)
      have x3 : wr.cell? ⟨g, th.length * 5 + 3, none⟩ = some (.int .i64 (r.fields[th.length].lists : Nat)) := hcell 3 (by omega)
      have x4 : wr.cell? ⟨g, th.length * 5 + 4, none⟩ = some (.int .u64 (r.fields[th.length].dflt : Nat)) := hcell 4 (by omega)
      have m0 := (hb.cell (p := ⟨M, 0, none⟩) hlt).trans HMC.out
      clear hcell hv hb
      generalize r.fields[th.length] = f at *
      obtain ⟨fn, fk, fr, fl, fd⟩ := f
      simp only at x0 x1 x2 x3 x4 hkb
      go_upto_region 5 with (fail)
      have hba : Below wr.heap.size wr (wr.alloc (.cells #[.string fn, .int .u8 fk, .int .i64 fr, .int .i64 fl, .int .u64 fd] 52)) := (Below.refl _ _).alloc (Nat.le_refl _) _
      have hq := heap_alloc_new wr (.cells #[.string fn, .int .u8 fk, .int .i64 fr, .int .i64 fl, .int .u64 fd] 52)
      have HB3 := Lib.hid (HBK.out.trans (hba.mono HBK.out.size))
      have HTH3 := Lib.hid (row_keep hba HTH.out)
      have hMr : M < wr.heap.size := Nat.lt_of_lt_of_le hlt HBK.out.size
      have u0 := (hba.cell (p := ⟨M, 0, none⟩) hMr).trans m0
      clear x0 x1 x2 x3 x4 hba m0
      generalize wr.alloc (.cells #[.string fn, .int .u8 fk, .int .i64 fr, .int .i64 fl, .int .u64 fd] 52) = W1 at *
      have HQ := Lib.hid hq
      clear hq
      obtain ⟨i0, hi0, hz0, hz1, hz2⟩ := info_parts bool_info
      have I1 := Lib.hid hi0
      have I2 := Lib.hid hz0
      have I3 := Lib.hid hz1
      have I4 := Lib.hid hz2
      have hal : Below W1.heap.size W1 (W1.alloc (.cells #[.bool (bits BinOp.and .u32 (mask / 2 ^ th.length) 1 == 1)] 4)) := (Below.refl _ _).alloc (Nat.le_refl _) _
      have HBA := Lib.hid (HB3.out.trans (hal.mono HB3.out.size))
      have HBN := Lib.hid (heap_alloc_new W1 (.cells #[.bool (bits BinOp.and .u32 (mask / 2 ^ th.length) 1 == 1)] 4))
      have HUA := Lib.hid (row_keep hal HTH3.out)
      have HQA := Lib.hid (blk_below HQ.out hal (blk_lt HQ.out))
      have hs0 : W0.heap.size ≤ W1.heap.size := HB3.out.size
      clear hi0 hz0 hz1 hz2 hal
      go_wp2_with (at_builtin; refine wpList_append_own _ rfl (.tmp 21) (.tmp 27) 47 rfl W0.heap.size 4 i0 _ 1 1 Tryd.underlying47 I1.out I2.out I3.out I4.out rfl (by decide) (.slice ta th.length tc) th.length (boolCells th) rfl HUA.out _ 1 1 [.bool (bits BinOp.and .u32 (mask / 2 ^ th.length) 1 == 1)] rfl rfl (World.news_of_block HBN.out) (by intro u hu; simp at hu; subst hu; rfl) (by unfold maxLen; omega) (by omega) (by rw [World.size_alloc]; omega) ?_; intro v4 W8 hown4 hg4 hx; clear hx; obtain ⟨a4, e4, rfl⟩ := ownsRow_form hown4; have hb8 : Below W0.heap.size W0 W8 := HBA.out.grown hg4 (by rw [World.size_alloc]; omega) (fun k hk => (ownsRow_lt HTH3.out k hk).1); have hq8 : W8.heap[wr.heap.size]? = some (.cells #[.string fn, .int .u8 fk, .int .i64 fr, .int .i64 fl, .int .u64 fd] 52 (0, 0)) := (hg4.block wr.heap.size (blk_lt HQA.out) (fun e => by have := (ownsRow_lt HTH.out _ e.symm).2; omega)).trans HQA.out; have HB8 := Lib.hid hb8; have HQ8 := Lib.hid hq8; have HTH8 := Lib.hid hown4; clear hb8 hq8 hown4 hg4 u0)
      have y0 := (blk_cell HQ8.out 0).trans rfl
      have y1 := (blk_cell HQ8.out 1).trans rfl
      have y2 := (blk_cell HQ8.out 2).trans rfl
      have y3 := (blk_cell HQ8.out 3).trans rfl
      have y4 := (blk_cell HQ8.out 4).trans rfl
      have hF8 : wr.heap.size < W8.heap.size := blk_lt HQ8.out
      have HLI := Lib.hid (fun W => linline_any fn fk fr fl fd W)
      have HRI := Lib.hid (fun W => rinline_any fn fk fr fl fd W (by omega))
      generalize inlP ⟨fn, fk, fr, fl, fd⟩ = q at *
      go_region_held3 (fun w' => w'.cell? ⟨wr.heap.size, 0, none⟩ = some (.string fn) ∧ w'.cell? ⟨wr.heap.size, 1, none⟩ = some (.int .u8 fk) ∧ w'.cell? ⟨wr.heap.size, 2, none⟩ = some (.int .i64 fr) ∧ w'.cell? ⟨wr.heap.size, 3, none⟩ = some (.int .i64 fl) ∧ w'.cell? ⟨wr.heap.size, 4, none⟩ = some (.int .u64 fd)) (first | assumption | (with_reducible exact ⟨k0, k1, k2, k3, k4⟩) | (with_reducible exact ⟨l0, l1, l2, l3, l4⟩) | go_keep) (first | (go_at_call 17; (with_reducible refine (HLI.out W8.drew).mono ?_); rintro e W9 ⟨rfl, hb9⟩; have hx9 : Below W8.heap.size W8 W9 := (Below.refl _ W8).drew.trans hb9; clear hb9; have k0 := (hx9.cell (p := ⟨wr.heap.size, 0, none⟩) hF8).trans y0; have k1 := (hx9.cell (p := ⟨wr.heap.size, 1, none⟩) hF8).trans y1; have k2 := (hx9.cell (p := ⟨wr.heap.size, 2, none⟩) hF8).trans y2; have k3 := (hx9.cell (p := ⟨wr.heap.size, 3, none⟩) hF8).trans y3; have k4 := (hx9.cell (p := ⟨wr.heap.size, 4, none⟩) hF8).trans y4) | (go_at_call 18; (with_reducible refine (HRI.out W9).mono ?_); rintro e W10 ⟨rfl, hb10⟩; have hx10 : Below W8.heap.size W8 W10 := hx9.trans (hb10.mono hx9.size); clear hb10; have l0 := (hx10.cell (p := ⟨wr.heap.size, 0, none⟩) hF8).trans y0; have l1 := (hx10.cell (p := ⟨wr.heap.size, 1, none⟩) hF8).trans y1; have l2 := (hx10.cell (p := ⟨wr.heap.size, 2, none⟩) hF8).trans y2; have l3 := (hx10.cell (p := ⟨wr.heap.size, 3, none⟩) hF8).trans y3; have l4 := (hx10.cell (p := ⟨wr.heap.size, 4, none⟩) hF8).trans y4))
      all_goals
        have HX := Lib.hid (HB8.out.trans (hx10.mono HB8.out.size))
        have HTX := Lib.hid (row_keep hx10 HTH8.out)
        clear hx9 hx10 y0 y1 y2 y3 y4 k0 k1 k2 k3 k4 l0 l1 l2 l3 l4
        simp only [Exit.then]
        go_wp2
        go_roundw
        case rel => exact ⟨th ++ [(bits BinOp.and .u32 (mask / 2 ^ th.length) 1 == 1)], by rw [List.length_append]; simp; omega, by rw [List.length_append]; go_num, HX.out, by rw [List.length_append, boolCells_snoc]; exact HTX.out⟩
        case measure => simp [intOf]; omega
    · have hke : th.length = r.fields.length := by omega
      have hki : ¬ (th.length : Int) < r.fields.length := by omega
      have HKE := Lib.hid hke
      have HF0 := Lib.hid (row_keep hb HROW.out)
      have HQ0 := Lib.hid (blk_below HQ2.out hb (blk_lt HQ2.out))
      have HB0 := Lib.hid (HB.out.trans (hb.mono HB.out.size))
      have HTT := Lib.hid (HT.out.below hb)
      have HTP := Lib.hid (tabled_any (nm := r.name) (fs := r.fields) (hn := (by omega : r.fields.length ≤ 1000)) (th := th) (hth := hke))
      have HRP := Lib.hid (rtabled_any (nm := r.name) (fs := r.fields) (hn := (by omega : r.fields.length ≤ 1000)) (hkd := (fun f hf => by have := (HR.out.2.2 f hf).2; omega)) (th := th) (hth := hke))
      unfold TPost at HTP
      unfold RTPost at HRP
      generalize tabAll r.fields th 4 = st at *
      clear hb hke
      obtain ⟨hBl3, z0, z1, _⟩ := blk2 HQ0.out
      go_wp2_with fail
      refine (HTP.out wr _ _ HF0.out _ _ HTH.out HTT.out).mono ?_
      rintro e W1 ⟨v, rfl, hrow1, hb1⟩
      obtain ⟨va, vc, rfl⟩ := ownsRow_form hrow1
      have HB1 := Lib.hid (HB0.out.trans (hb1.mono HB0.out.size))
      have HF1 := Lib.hid (row_keep hb1 HF0.out)
      have HT1 := Lib.hid (row_keep hb1 HTH.out)
      have HQ3 := Lib.hid (blk_below HQ0.out hb1 (blk_lt HQ0.out))
      clear z0 z1
      go_upto_region 10 with (fail)
      have hba : Below W1.heap.size W1 (W1.alloc (.cells #[.slice va st.pl.length vc, .int .i64 st.size, .int .i64 st.al] 55)) := (Below.refl _ _).alloc (Nat.le_refl _) _
      have HP := Lib.hid (heap_alloc_new W1 (.cells #[.slice va st.pl.length vc, .int .i64 st.size, .int .i64 st.al] 55))
      have HB2 := Lib.hid (HB1.out.trans (hba.mono HB1.out.size))
      have HR2 := Lib.hid (row_keep hba hrow1)
      have HF2 := Lib.hid (row_keep hba HF1.out)
      have HT2 := Lib.hid (row_keep hba HT1.out)
      have HQ4 := Lib.hid (blk_below HQ3.out hba (blk_lt HQ3.out))
      clear hba hb1 hrow1
      generalize W1.alloc (.cells #[.slice va st.pl.length vc, .int .i64 st.size, .int .i64 st.al] 55) = W2 at *
      obtain ⟨_, z0, z1, _⟩ := blk2 HQ4.out
      go_wp2_with fail
      refine (HRP.out W2 _ _ HF2.out _ _ HT2.out).mono ?_
      rintro e W3 ⟨u, rfl, hrow3, hb3⟩
      obtain ⟨ua, uc, rfl⟩ := ownsRow_form hrow3
      have HB3 := Lib.hid (HB2.out.trans (hb3.mono HB2.out.size))
      have HR3 := Lib.hid (row_keep hb3 HR2.out)
      have HU3 := Lib.hid hrow3
      have HP3 := Lib.hid (blk_below HP.out hb3 (blk_lt HP.out))
      clear hrow3 hb3 z0 z1
      obtain ⟨_, p0, p1, p2, _⟩ := blk3 HP3.out
      go_wp2_with fail
      refine (sameInts_any st.pl st.pl _ _ _ _ W3 HR3.out HU3.out).mono ?_
      rintro e W4 ⟨rfl, hb4⟩
      rw [show decide (st.pl = st.pl) = true from decide_eq_true rfl]
      have HB4 := Lib.hid (HB3.out.trans (hb4.mono HB3.out.size))
      have HP4 := Lib.hid (blk_below HP3.out hb4 (blk_lt HP3.out))
      clear hb4 p0 p1 p2
      obtain ⟨_, p0, p1, p2, _⟩ := blk3 HP4.out
      go_wp2
      go_ret
      exact ⟨by first | rfl | simp, HB4.out⟩
set_option maxRecDepth 100000 in
theorem layoutTables_walk (p : Plan) {a0 a1 : Option Addr} {n0 e0 n1 c1 : Nat} (mask : Int) (w : World) (hp : IsPlan w p a0 n0 e0 a1 n1 c1) (_hm : (Lit.int .u32 mask).wf = true) (hT : WTab w) (hI : ITab w) :
    Calls Tryd.prog 4 #[.agg #[.slice a0 n0 e0, .slice a1 n1 c1, .int .u8 p.root, .bool p.tree], .int .u32 mask] w fun e w' => e = .returned (.bool true) ∧ Below w.heap.size w w' := by
  have HP := Lib.hid hp
  have HT := Lib.hid hT
  have HI := Lib.hid hI
  obtain ⟨hb0, hz0, hz1⟩ := two_start w #[.slice a0 n0 e0, .slice a1 n1 c1, .int .u8 p.root, .bool p.tree] #[.int .u32 mask] 25 46
  have HB0 := Lib.hid hb0
  have HZ0 := Lib.hid hz0
  have HZ1 := Lib.hid hz1
  clear hp hT hI hb0 hz0 hz1
  go_enter Tryd.func4, Tryd.ntmps4
  go_upto_region 1 with (fail)
  generalize (w.alloc (.cells #[.slice a0 n0 e0, .slice a1 n1 c1, .int .u8 p.root, .bool p.tree] 25)).alloc (.cells #[.int .u32 mask] 46) = W1 at *
  go_wp2_with fail
  refine (lawake_any W1 (HT.out.below HB0.out)).mono ?_
  rintro e W2 ⟨rfl, hb2⟩
  have HB2 := Lib.hid (HB0.out.trans (hb2.mono HB0.out.size))
  obtain ⟨_, y0, y1, y2, y3⟩ := blk4p (blk_below HZ0.out hb2 (blk_lt HZ0.out))
  have hm2 := (blk_cell (blk_below HZ1.out hb2 (blk_lt HZ1.out)) 0).trans rfl
  have hml := World.block_lt_of_cell? _ _ hm2
  have HM2 := Lib.hid (fun W (hb : Below W2.heap.size W2 W) => (hb.cell (p := ⟨w.heap.size + 1, 0, none⟩) hml).trans hm2)
  have hmf : ∀ (fn : Fn) (first cap : Array Value) (w : World), (Instr.makeFunc fn first cap).run Tryd.prog w = .ok (.func fn first cap) w := fun _ _ _ _ => rfl
  clear hb2 hm2 hml
  go_wp2_with fail
  refine (each_any p W2 (HP.out.below HB2.out) 16 #[.pointer (some ⟨w.heap.size + 1, 0, none⟩)] ⟨enters_of Tryd.func16 (by kernel_rfl) rfl, fun W r sa sn sc ea en ec rt fv base hb hR hrow => ?_⟩).mono ?_
  · exact tabs1_any W r sa sn sc ea en ec rt fv base _ mask (HM2.out W hb) ((HI.out.below HB2.out).below hb) hR hrow
  rintro e W5 ⟨rfl, hb5⟩
  have HB5 := Lib.hid (HB2.out.trans (hb5.mono HB2.out.size))
  clear hb5 y0 y1 y2 y3
  go_wp2
  go_ret
  exact ⟨rfl, HB5.out⟩
end Go.Proofs.YtcbkdohahfjbfaaDoor
