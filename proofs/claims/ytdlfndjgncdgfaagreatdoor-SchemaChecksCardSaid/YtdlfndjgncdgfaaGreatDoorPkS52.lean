/-
  The law SchemaChecks: a walk over the callees' contracts. Conditions: the library's tables hold what the row lists, its error lies there.
-/
import Derived.Test.YtdlfndjgncdgfaaGreatDoorPkS7
import Derived.Test.YtdlfndjgncdgfaaGreatDoorPkS26
import Derived.Test.YtdlfndjgncdgfaaGreatDoorPkS46
import Derived.Test.YtdlfndjgncdgfaaGreatDoorPkS47
import Derived.Test.YtdlfndjgncdgfaaGreatDoorPkS51
import Derived.Deep.RegionHeld3
import Derived.Deep.CutBlock
import Derived.BigQuiet
import Derived.IntWalk
namespace Go.Proofs.YtdlfndjgncdgfaaGreatDoor
open Go.ChangeShapes Go.WideShapes Go.ChangeAt Go.RowKit Go.Shelf

theorem rem_nat' (z : Int) (n : Nat) (hz : 0 ≤ z) (hn : 1 ≤ n) : ∃ q : Nat, z.tmod (n : Int) = q ∧ q < n := by
  have h1 := Int.emod_nonneg z (show (n : Int) ≠ 0 by omega)
  have h2 := Int.emod_lt_of_pos z (show 0 < (n : Int) by omega)
  refine ⟨(z % (n : Int)).toNat, ?_, by omega⟩
  rw [Int.tmod_eq_emod_of_nonneg hz]
  omega
theorem made_fit {p : Plan} (hok : planOk p) (hn : PlanNums p) : (∀ r ∈ recsP p p.structs.length, r.name.size ≤ 281474976710656 ∧ (1 ≤ r.fields.length ∧ r.fields.length ≤ 16) ∧ ∀ f ∈ r.fields, FldFit (cF f)) ∧ (∀ c ∈ chosP p p.enums.length, c.name.size ≤ 281474976710656 ∧ ∀ s ∈ c.names, s.size ≤ 281474976710656) := by
  constructor
  · intro r hr
    obtain ⟨i, hi, rfl⟩ := List.mem_map.1 (show r ∈ (List.range _).map _ from hr)
    have hi' := List.mem_range.1 hi
    have hmem : p.structs.getD i [] ∈ p.structs := by
      rw [List.getD, List.getElem?_eq_getElem hi']
      exact List.getElem_mem _
    refine ⟨?_, ?_, ?_⟩
    · show (recName i).size ≤ _
      unfold recName
      rw [name2_size]
      decide
    · show 1 ≤ (fldsP p i _ _).length ∧ (fldsP p i _ _).length ≤ 16
      rw [fldsP_length]
      exact hok.2.2.2 _ hmem
    · intro f hf
      obtain ⟨k, hk, rfl⟩ := List.mem_map.1 (show f ∈ (List.range _).map _ from hf)
      have hk' := List.mem_range.1 hk
      refine ⟨?_, ?_, ?_⟩
      · show kindP p i _ ≤ 255
        have h0 : kind0 p ((p.structs.getD i []).getD k noPF) ≤ 13 := by
          unfold kind0
          split <;> omega
        unfold kindP
        split <;> omega
      · show (if _ then _ else 0) ≤ 18446744073709551615
        split
        · have := numP_max (cntOf p (refP p i ((p.structs.getD i []).getD k noPF))) (kindP p i ((p.structs.getD i []).getD k noPF)) _ (hn i hi' k hk')
          omega
        · omega
      · show (labelOf _ _).size ≤ _
        exact Nat.le_trans (label_size _ _) (by decide)
  · intro c hc
    obtain ⟨i, hi, rfl⟩ := List.mem_map.1 (show c ∈ (List.range _).map _ from hc)
    refine ⟨?_, ?_⟩
    · show (enumName i).size ≤ _
      unfold enumName
      rw [name2_size]
      decide
    · intro s hs
      obtain ⟨k, _, rfl⟩ := List.mem_map.1 (show s ∈ (List.range _).map _ from hs)
      unfold valName
      rw [ByteArray.size_append, strOfNums_size]
      exact (by decide : 3 ≤ 281474976710656)
theorem drewN_below (W : World) (n : Nat) : Below W.heap.size W (W.drewN n) := by
  induction n with
  | zero => exact Below.refl _ _
  | succ n ih => exact ih.drew
theorem CkW.below {base S G k j : Nat} {ss : List (CRec × Value)} {es : List (SCho × Value)} {sa ea : Option Addr} {sc ec : Nat} {rt : Int} {w W : World} (h : CkW base S G k j ss es sa sc ea ec rt w) (hb : Below w.heap.size w W) : CkW base S G k j ss es sa sc ea ec rt W :=
  ⟨blk_below h.own hb (blk_lt h.own), h.rows.below hb, h.fits, h.low, h.few, h.kl, h.fld, h.jl, h.jfew, h.efew, h.enames⟩
theorem names_of {p : Plan} {es : List (SCho × Value)} {m : Nat} (he : es.map Prod.fst = chosP p m) : ∀ q ∈ es, 1 ≤ q.1.names.length ∧ q.1.names.length ≤ 32 := by
  intro q hq
  have h1 : q.1 ∈ chosP p m := by rw [← he]; exact List.mem_map.2 ⟨q, hq, rfl⟩
  obtain ⟨i, _, h2⟩ := List.mem_map.1 h1
  rw [← h2]
  show 1 ≤ ((List.range (cntOf p i)).map valName).length ∧ ((List.range (cntOf p i)).map valName).length ≤ 32
  rw [List.length_map, List.length_range]
  unfold cntOf
  omega
theorem fit_of {ss : List (SRec × Value)} {es : List (SCho × Value)} {rs : List SRec} {cs : List SCho} (hs : ss.map Prod.fst = rs) (he : es.map Prod.fst = cs) (h : (∀ r ∈ rs, r.name.size ≤ 281474976710656 ∧ (1 ≤ r.fields.length ∧ r.fields.length ≤ 16) ∧ ∀ f ∈ r.fields, FldFit (cF f)) ∧ (∀ c ∈ cs, c.name.size ≤ 281474976710656 ∧ ∀ s ∈ c.names, s.size ≤ 281474976710656)) : CFit (ss.map fun q => (cR q.1, q.2)) es := by
  refine ⟨fun q hq => ?_, fun q hq => h.2 _ (by rw [← he]; exact List.mem_map.2 ⟨q, hq, rfl⟩)⟩
  obtain ⟨x, hx, rfl⟩ := List.mem_map.1 hq
  obtain ⟨h1, _, h2⟩ := h.1 x.1 (by rw [← hs]; exact List.mem_map.2 ⟨x, hx, rfl⟩)
  refine ⟨h1, fun f hf => ?_⟩
  obtain ⟨y, hy, rfl⟩ := List.mem_map.1 (show f ∈ x.1.fields.map cF from hf)
  exact h2 y hy
set_option maxRecDepth 100000 in
set_option maxHeartbeats 16000000 in
theorem schemaChecks_walk (p : Plan) {a0 a1 : Option Addr} {n0 e0 n1 c1 : Nat} (at' what n : Int) (name : ByteArray) (w : World) (hp : IsPlan w p a0 n0 e0 a1 n1 c1) (hat : (Lit.int .i64 at').wf = true) (hwhat : (Lit.int .i64 what).wf = true) (hn : (Lit.int .u64 n).wf = true) (hname : name.size ≤ 9223372036854775807) (hT : Tabs w) (hE : ErrV w) :
    Calls Tryz.prog 4 #[.agg #[.slice a0 n0 e0, .slice a1 n1 c1, .int .u8 p.root, .bool p.tree], .int .i64 at', .int .i64 what, .int .u64 n, .string name] w fun e w' => e = .returned (.bool true) ∧ Below w.heap.size w w' := by
  have bat := bounds_i64 hat
  have bwh := bounds_i64 hwhat
  have bn := bounds_u64 hn
  obtain ⟨n, rfl⟩ := Int.eq_ofNat_of_zero_le bn.1
  have HP := Lib.hid hp
  have HT := Lib.hid hT
  have HE := Lib.hid hE
  have HB0 := Lib.hid ((Below.refl w.heap.size w).alloc (Nat.le_refl _) (.cells #[.slice a0 n0 e0, .slice a1 n1 c1, .int .u8 p.root, .bool p.tree] 25))
  have HZ0 := Lib.hid (heap_alloc_new w (.cells #[.slice a0 n0 e0, .slice a1 n1 c1, .int .u8 p.root, .bool p.tree] 25))
  clear hp hat hwhat hn hT hE
  go_enter Tryz.func4, Tryz.ntmps4
  go_wp2_with fail
  refine (awake5_any _ (HT.out.below (Nat.le_refl _) HB0.out) (HE.out.later HB0.out)).mono ?_
  rintro e W1 ⟨rfl, hb1⟩
  have HB1 := Lib.hid (HB0.out.trans (hb1.mono HB0.out.size))
  obtain ⟨_, y0, y1, y2, y3⟩ := blk4p (blk_below HZ0.out hb1 (blk_lt HZ0.out))
  clear hb1
  go_wp2_with fail
  refine (made_any p W1 (HP.out.below HB1.out)).mono ?_
  rintro e W2 ⟨hb2, hpost⟩
  have HB2 := Lib.hid (HB1.out.trans (hb2.mono HB1.out.size))
  have hb2s := hb2.size
  clear hb2 y0 y1 y2 y3
  rcases hpost with ⟨hok, ss, es, sv, ev, rfl, hss, hes, hr⟩ | ⟨hno, rfl⟩
  · obtain ⟨sa, sc, ea, ec, rfl, rfl⟩ := hr.forms
    have hF := made_fit hok (plan_nums HP.out)
    have HFIT := Lib.hid (fit_of hss hes hF)
    have HEN := Lib.hid (names_of hes)
    have hes8 : es.length ≤ 8 := by have h := congrArg List.length hes; rw [List.length_map, chosP_length] at h; rw [h]; exact hok.2.2.1
    have HB12 := Lib.hid hb2s
    have hf1 := row_few hr.structs
    have hf2 := row_few hr.enums
    have HR := Lib.hid hr
    have hsl : ss.length = p.structs.length := by have := congrArg List.length hss; rwa [List.length_map, recsP_length] at this
    have h1s : 1 ≤ ss.length := by rw [hsl]; exact hok.1
    have h16 : ss.length ≤ 16 := by rw [hsl]; exact hok.2.1
    have HFL : Hid (∀ k (hk : k < ss.length), 1 ≤ ss[k].1.fields.length ∧ ss[k].1.fields.length ≤ 16) := Lib.hid (fun k hk => (hF.1 ss[k].1 (by rw [← hss]; exact List.mem_map.2 ⟨_, List.getElem_mem hk, rfl⟩)).2.1)
    clear hok hss hes hr hF hsl
    generalize p.root % p.structs.length = rt at *
    go_upto_region 4 with (fail)
    have hba : Below W2.heap.size W2 (W2.alloc (.cells #[.slice sa ss.length sc, .slice ea es.length ec, .int .i64 rt] 30)) := (Below.refl _ _).alloc (Nat.le_refl _) _
    have HZ := Lib.hid (heap_alloc_new W2 (.cells #[.slice sa ss.length sc, .slice ea es.length ec, .int .i64 rt] 30))
    have HB3 := Lib.hid (HB2.out.trans (hba.mono HB2.out.size))
    have HR3 := Lib.hid (HR.out.below hba)
    clear hba
    generalize W2.alloc (.cells #[.slice sa ss.length sc, .slice ea es.length ec, .int .i64 rt] 30) = W3 at *
    obtain ⟨_, z0, z1, z2, f0, f1, f2⟩ := blk3 HZ.out
    by_cases hnm : 200 < name.size
    · have t0 : (200 : Int) < (name.size : Int) := by omega
      go_wp2
      go_ret
      exact ⟨rfl, HB3.out⟩
    have t0 : ¬ (200 : Int) < (name.size : Int) := by omega
    have hu0 : 0 ≤ IntKind.u64.wrap at' := by simp only [IntKind.wrap, IntKind.bits, IntKind.signed]; simp; omega
    have hul : IntKind.u64.wrap (ss.length : Int) = ss.length := IntWalk.u64_in _ (by omega)
    obtain ⟨k, hk, hkl⟩ := rem_nat' (IntKind.u64.wrap at') ss.length hu0 h1s
    have hki : IntKind.i64.wrap (k : Int) = k := IntWalk.i64_in _ (by omega)
    have hnz : (ss.length : Int) ≠ 0 := by omega
    obtain ⟨g, cc, fa, fn, hv, hc, hg, x0, x1, hq⟩ := HR3.out.strct k hkl
    obtain ⟨rfl, rfl⟩ := slice_inj hv
    obtain ⟨hfl1, hfl16⟩ := HFL.out k hkl
    have hul2 : IntKind.u64.wrap (ss[k].1.fields.length : Int) = ss[k].1.fields.length := IntWalk.u64_in _ (by omega)
    have hnz2 : (ss[k].1.fields.length : Int) ≠ 0 := by omega
    have hd7 : (IntKind.u64.wrap at').tdiv 7 = IntKind.u64.wrap at' / 7 := Int.tdiv_eq_ediv_of_nonneg hu0
    obtain ⟨j, hj, hjl⟩ := rem_nat' (IntKind.u64.wrap at' / 7) ss[k].1.fields.length (Int.ediv_nonneg hu0 (by omega)) hfl1
    have hji : IntKind.i64.wrap (j : Int) = j := IntWalk.i64_in _ (by omega)
    have hkb : (k : Int) < ss.length := by omega
    have hkb0 : (0 : Int) ≤ (k : Int) := by omega
    have hjb : (j : Int) < ss[k].1.fields.length := by omega
    have hjb0 : (0 : Int) ≤ (j : Int) := by omega
    obtain ⟨G, fcap, hfv, hfc, hGl, b0, b1, b2, b3, b4⟩ := HR3.out.field k hkl j hjl
    have hfv0 := hfv
    rw [hq] at hfv
    obtain ⟨rfl, rfl⟩ := slice_inj hfv
    obtain ⟨uat, huat⟩ : ∃ u, IntKind.u64.wrap at' = u := ⟨_, rfl⟩
    rw [huat] at hu0 hk hd7 hj
    have hne : ∀ q ∈ es, 1 ≤ q.1.names.length ∧ q.1.names.length ≤ 32 := HEN.out
    have hge : (ss.map fun q => (cR q.1, q.2)).getD k noCR = (cR ss[k].1, ss[k].2) := by rw [List.getD, List.getElem?_map, List.getElem?_eq_getElem hkl]; rfl
    have hcl : (cR ss[k].1).fields.length = ss[k].1.fields.length := by show (List.map cF _).length = _; rw [List.length_map]
    have HW : Hid (CkW W1.heap.size W2.heap.size G k j (ss.map fun q => (cR q.1, q.2)) es (some ⟨g, 0, none⟩) sc ea ec rt W3) := Lib.hid ⟨by rw [List.length_map]; exact HZ.out, by rw [List.length_map]; exact HR3.out.crows, HFIT.out, HB12.out, by rw [List.length_map]; exact h16, by rw [List.length_map]; exact hkl, ⟨fn, by rw [hge]; show ss[k].2 = .slice _ (cR ss[k].1).fields.length fn; rw [hcl]; exact hfv0⟩, by rw [hge]; show j < (cR ss[k].1).fields.length; rw [hcl]; exact hjl, by rw [hge]; show (cR ss[k].1).fields.length ≤ 16; rw [hcl]; exact hfl16, hes8, hne⟩
    obtain ⟨r, hr0, hrl⟩ := rem_nat' (IntKind.u64.wrap what) 12 (by simp only [IntKind.wrap, IntKind.bits, IntKind.signed]; simp; omega) (by omega)
    have hr : (IntKind.u64.wrap what).tmod 12 = (r : Int) := hr0
    have hnn : n ≤ 18446744073709551615 := by omega
    have hnm2 : name.size ≤ 200 := by omega
    obtain ⟨uw, huw⟩ : ∃ u, IntKind.u64.wrap what = u := ⟨_, rfl⟩
    rw [huw] at hr
    clear hr0
    go_upto_region 7 with (fail)
    have hub : uat ≤ 18446744073709551615 := by rw [← huat]; simp only [IntKind.wrap, IntKind.bits, IntKind.signed]; simp; omega
    have hw7 : IntKind.u64.wrap (uat / 7) = uat / 7 := IntWalk.u64_in _ (by omega)
    have hnzN : ¬ ss[k].1.fields.length = 0 := by omega
    go_quiet (fail)
    clear x0 x1 b0 b1 b2 b3 b4
    go_upto_block 0 with fail
    have HW4 := Lib.hid (HW.out.below (drewN_below W3 nq))
    refine ck_all hrl ⟨rfl, rfl, rfl, rfl, rfl, rfl, rfl, rfl⟩ HW4.out hnn hnm2 ?_
    intro c' w' hc' hready hb'
    have HB5 := Lib.hid ((HB3.out.trans ((drewN_below W3 nq).mono HB3.out.size)).trans (hb'.mono (HB1.out.size)))
    obtain ⟨sa', sn', sc', ea', en', ec', root', b, hS', hch, hrch⟩ := ready_checks hready (HT.out.below (Nat.le_refl _) HB5.out)
    have HCH := Lib.hid hch
    have HRCH := Lib.hid hrch
    obtain ⟨hSl, p0, p1, p2, _⟩ := blk3 hS'
    obtain ⟨u, rfl⟩ := hc'.lit
    clear hc' hready hb' hS' hch hrch HW HW4 HR3 HR HZ HFL HFIT HEN
    apply_assumption
    generalize W2.heap.size = SB at *
    go_upto_region 33 with (fail)
    go_region_held3 (fun w'' => w''.cell? ⟨SB, 0, none⟩ = some (.slice sa' sn' sc') ∧ w''.cell? ⟨SB, 1, none⟩ = some (.slice ea' en' ec') ∧ w''.cell? ⟨SB, 2, none⟩ = some (.int .i64 root')) (first | assumption | (with_reducible exact ⟨k0, k1, k2⟩) | (with_reducible exact ⟨l0, l1, l2⟩) | go_keep) (first | (go_at_call 12; (with_reducible refine (HCH.out w'.drew (Below.refl _ _).drew).mono ?_); rintro e W9 ⟨rfl, hb9⟩; have hx9 : Below w'.heap.size w' W9 := (Below.refl _ w').drew.trans hb9; clear hb9; have k0 := (hx9.cell (p := ⟨SB, 0, none⟩) hSl).trans p0; have k1 := (hx9.cell (p := ⟨SB, 1, none⟩) hSl).trans p1; have k2 := (hx9.cell (p := ⟨SB, 2, none⟩) hSl).trans p2) | (go_at_call 13; (with_reducible refine (HRCH.out W9 hx9).mono ?_); rintro e W10 ⟨rfl, hb10⟩; have hx10 : Below w'.heap.size w' W10 := hx9.trans (hb10.mono hx9.size); clear hb10; have l0 := (hx10.cell (p := ⟨SB, 0, none⟩) hSl).trans p0; have l1 := (hx10.cell (p := ⟨SB, 1, none⟩) hSl).trans p1; have l2 := (hx10.cell (p := ⟨SB, 2, none⟩) hSl).trans p2))
    all_goals
      have HX := Lib.hid (HB5.out.trans (hx10.mono HB5.out.size))
      simp only [Exit.then]
      go_wp2
      go_ret
      exact ⟨by first | rfl | simp, HX.out⟩
  · go_wp2
    go_ret
    exact ⟨rfl, HB2.out.alloc HB2.out.size _⟩
end Go.Proofs.YtdlfndjgncdgfaaGreatDoor
