/-
  Package flatread: the list at a place. Conditions: those that each theorem names.
-/
import Derived.Test.YtcfjjocmiheiaaaDoorPkD3
import Derived.Test.YtcfjjocmiheiaaaDoorPkD10
import Derived.Test.YtcfjjocmiheiaaaDoorPkD11
namespace Go.Proofs.YtcfjjocmiheiaaaDoor
open Go.ChangeShapes Go.WideShapes Go.ChangeAt Go.RowKit Go.Shelf
def listV (m k:Nat)(ref lists at' count size:Int):Value:=.agg #[.pointer (some ⟨m,0,none⟩),.int .u8 k,.int .i64 ref,.int .i64 lists,.int .i64 at',.int .i64 count,.int .i64 size]
def noList:Value:=.agg #[.pointer none,.int .u8 0,.int .i64 0,.int .i64 0,.int .i64 0,.int .i64 0,.int .i64 0]
def itemsOk (zs:List Int)(k:Nat)(lists at':Int):Bool:=inZ (lenZ zs) at' 4&&inZ (lenZ zs) (at'+4) (leAt zs at'.toNat 4 * stepZ k lists)
def FItemsPost (zs:List Int)(m k:Nat)(ref lists at':Int)(e:Ending):Prop:=
 (itemsOk zs k lists at'=true∧e=.returned (.tuple #[listV m k ref lists (at'+4) (leAt zs at'.toNat 4) (stepZ k lists),.bool true]))∨(itemsOk zs k lists at'=false∧e=.returned (.tuple #[noList,.bool false]))
theorem sort_num (k:Nat)(lists:Int):sortP k lists=1 ↔ numTB k lists=true:=by
 unfold sortP numTB
 rw [Bool.and_eq_true,decide_eq_true_iff,decide_eq_true_iff]
 constructor
 · intro h
   split at h
   · cases h
   split at h
   · cases h
   split at h
   · exact ⟨by omega,by assumption⟩
   split at h
   · cases h
   split at h<;>cases h
 · rintro ⟨h1,h2⟩
   rw [if_neg (by omega),if_neg (by omega),if_pos h2]
theorem step_bd (k:Nat)(lists:Int):1≤stepZ k lists∧stepZ k lists≤8:=by
 unfold stepZ
 split
 · rename_i h
   unfold numTB at h
   rw [Bool.and_eq_true,decide_eq_true_iff,decide_eq_true_iff] at h
   obtain ⟨s,h1,h2⟩:=ksize_is h.2
   omega
 · omega
set_option maxRecDepth 100000 in
set_option maxHeartbeats 8000000 in
theorem fitems_any (w:World){base m:Nat}{bp:Option Addr}{bc:Nat}{sv ev:Value}{zs:List Int}{fs:List (List CFld × Value)}{ns:List Nat}(h:IsMsg base w m bp bc sv ev zs fs ns)(k:Nat)(ref lists at':Int) :
  Calls Tryd.prog 145 #[.pointer (some ⟨m,0,none⟩),.int .i64 at',.agg #[.int .u8 k,.int .i64 ref,.int .i64 lists]] w fun e w'=>FItemsPost zs m k ref lists at' e∧Below w.heap.size w w':=by
 obtain ⟨hb,hq1,hq2⟩:=two_start w #[.int .u8 k,.int .i64 ref,.int .i64 lists] #[.pointer none,.int .u8 0,.int .i64 0,.int .i64 0,.int .i64 0,.int .i64 0,.int .i64 0] 50 238
 have HB:=Lib.hid hb
 have HM:=Lib.hid (h.below hb)
 have HQ1:=Lib.hid hq1
 have HQ2:=Lib.hid hq2
 have hlen:=h.len
 have hzb:=h.bytes.1
 clear hb hq1 hq2 h
 by_cases hin:inZ (lenZ zs) at' 4=true
 case neg =>
  have HV:Hid (itemsOk zs k lists at'=false):=Lib.hid (by unfold itemsOk;rw [Bool.not_eq_true _ |>.mp hin];rfl)
  have HL:Hid (∀ W,Calls Tryd.prog 123 #[.slice bp zs.length bc,.int .i64 at',.int .i64 4] W fun e w'=>e=.returned (.tuple #[.int .u64 0,.bool false])∧W=w'):=Lib.hid (fun W=>load_out bp bc zs at' 4 W hlen hin)
  clear hin hzb
  go_enter Tryd.func145,Tryd.ntmps145
  go_upto_region 1 with (fail)
  generalize (w.alloc (.cells #[.int .u8 k,.int .i64 ref,.int .i64 lists] 50)).alloc (.cells #[.pointer none,.int .u8 0,.int .i64 0,.int .i64 0,.int .i64 0,.int .i64 0,.int .i64 0] 238)=W0 at *
  obtain ⟨_,m0,m1,m2,_⟩:=blk3 HM.out.blk
  obtain ⟨_,u0,u1,u2,u3,u4,u5,u6⟩:=blk7 HQ2.out
  have p0:=blk_frozen HQ2.out 0
  have p1:=blk_frozen HQ2.out 1
  have p2:=blk_frozen HQ2.out 2
  have p3:=blk_frozen HQ2.out 3
  have p4:=blk_frozen HQ2.out 4
  have p5:=blk_frozen HQ2.out 5
  have p6:=blk_frozen HQ2.out 6
  go_wp2_with fail
  refine (HL.out _).mono ?_
  rintro e _ ⟨rfl,rfl⟩
  go_wp2
  refine post_gen (fun Wf=>Wf.heap[w.heap.size+1]?=some (.cells #[.pointer none,.int .u8 0,.int .i64 0,.int .i64 0,.int .i64 0,.int .i64 0,.int .i64 0] 238 (0,0))∧Below w.heap.size w Wf) ⟨?_,?_⟩ ?_
  · exact blk_set7 HQ2.out _ _ _ _ _ _ _
  · exact below_set7 HB.out (Nat.le_succ _) _ _ _ _ _ _ _
  · rintro Wf ⟨e1,e2⟩
    obtain ⟨_,d0,d1,d2,d3,d4,d5,d6⟩:=blk7 e1
    exact bodyPost_ret (v:=.tuple #[.agg #[.pointer none,.int .u8 0,.int .i64 0,.int .i64 0,.int .i64 0,.int .i64 0,.int .i64 0],.bool false]) (by simp [results,Tryd.results145,go_sem,d0,d1,d2,d3,d4,d5,d6]) rfl ⟨.inr ⟨HV.out,rfl⟩,e2⟩
 have h1:=inZ_iff.1 hin
 have hz:lenZ zs=(zs.length:Int):=rfl
 rw [hz] at h1
 have hld:=leAt_4 zs at'.toNat hzb
 have HL:Hid (∀ W,Below ((w.alloc (.cells #[.int .u8 k,.int .i64 ref,.int .i64 lists] 50)).alloc (.cells #[.pointer none,.int .u8 0,.int .i64 0,.int .i64 0,.int .i64 0,.int .i64 0,.int .i64 0] 238)).heap.size ((w.alloc (.cells #[.int .u8 k,.int .i64 ref,.int .i64 lists] 50)).alloc (.cells #[.pointer none,.int .u8 0,.int .i64 0,.int .i64 0,.int .i64 0,.int .i64 0,.int .i64 0] 238)) W→Calls Tryd.prog 123 #[.slice bp zs.length bc,.int .i64 at',.int .i64 4] W fun e w'=>e=.returned (.tuple #[.int .u64 (leAt zs at'.toNat 4),.bool true])∧W=w'):=Lib.hid (fun W hb=>load_in _ bc zs at' 4 W (HM.out.bytes.below (Nat.le_refl _) hb) hlen hin (by decide))
 have hw4:=IntWalk.i64_in (at'+4) ⟨by omega,by omega⟩
 obtain ⟨P,hP⟩:∃ P,FItemsPost zs m k ref lists at'=P:=⟨_,rfl⟩
 rw [hP]
 have HP:=Lib.hid hP.symm
 clear hP
 unfold FItemsPost itemsOk listV noList at HP
 rw [hin,Bool.true_and] at HP
 generalize leAt zs at'.toNat 4=n at *
 have hcv:=IntWalk.i64_in n ⟨by omega,by omega⟩
 have hsb:=step_bd k lists
 obtain ⟨st,hst⟩:∃ st,stepZ k lists=st:=⟨_,rfl⟩
 rw [hst] at HP hsb
 have hns:0≤n * st∧n * st≤4294967296 * 8:=⟨Int.mul_nonneg hld.1 (by omega),Int.le_trans (Int.mul_le_mul_of_nonneg_right (Int.le_of_lt hld.2) (by omega)) (Int.mul_le_mul_of_nonneg_left hsb.2 (by decide))⟩
 have hwm:=IntWalk.i64_in (n * st) ⟨by omega,by omega⟩
 have HWI:=Lib.hid (fun W=>within_opt bp zs bc (at'+4) (n * st) W hlen)
 generalize inZ (lenZ zs) (at'+4) (n * st)=ok at *
 have HSO:=Lib.hid (fun W=>sorts_any k ref lists W)
 clear hin hzb hld hns
 by_cases hs:sortP k lists=1
 case' pos =>
  obtain rfl:kSize k=st:=by rw [←hst];unfold stepZ;rw [if_pos ((sort_num k lists).1 hs)]
  have HSZ:=Lib.hid (fun W=>wsize_any (k:Int) W)
  rw [hs] at HSO
  generalize kSize k=st at *
 case' neg =>
  obtain rfl:4=st:=by rw [←hst];unfold stepZ;rw [if_neg (fun h=>hs ((sort_num k lists).2 h))]
  have t1:((sortP k lists:Nat):Int)≠1:=by omega
  have t1':(((sortP k lists:Nat):Int)==1)=false:=by simpa using t1
  generalize ((sortP k lists:Nat):Int)=so at *
 all_goals
  clear hs hst
  go_enter Tryd.func145,Tryd.ntmps145
  go_upto_region 1 with (fail)
  generalize (w.alloc (.cells #[.int .u8 k,.int .i64 ref,.int .i64 lists] 50)).alloc (.cells #[.pointer none,.int .u8 0,.int .i64 0,.int .i64 0,.int .i64 0,.int .i64 0,.int .i64 0] 238)=W0 at *
  obtain ⟨_,m0,m1,m2,_⟩:=blk3 HM.out.blk
  obtain ⟨_,t0,t1,t2,_⟩:=blk3 HQ1.out
  go_wp2_with fail
  refine (HL.out _ (Below.refl _ _)).mono ?_
  rintro e _ ⟨rfl,rfl⟩
  go_upto_region 5 with (fail)
  have hba:Below W0.heap.size W0 (W0.alloc (.cells #[.pointer (some ⟨m,0,none⟩),.int .u8 k,.int .i64 ref,.int .i64 lists,.int .i64 (at'+4),.int .i64 n,.int .i64 4] 238)):=(Below.refl _ _).alloc (Nat.le_refl _) _
  have hn:=heap_alloc_new W0 (.cells #[.pointer (some ⟨m,0,none⟩),.int .u8 k,.int .i64 ref,.int .i64 lists,.int .i64 (at'+4),.int .i64 n,.int .i64 4] 238)
  have HB1:=Lib.hid (HB.out.trans (hba.mono HB.out.size))
  have HQ3:=Lib.hid (blk_below HQ2.out hba (blk_lt HQ2.out))
  have HQ4:=Lib.hid (blk_below HQ1.out hba (blk_lt HQ1.out))
  have HM1:=Lib.hid (HM.out.below hba)
  have HT0:Hid (w.heap.size+1<W0.heap.size):=Lib.hid (blk_lt HQ2.out)
  have HMT:Hid (m<W0.heap.size):=Lib.hid (blk_lt HM.out.blk)
  have HNB:=Lib.hid hn
  clear hba hn m0 m1 m2 t0 t1 t2
  generalize W0.alloc (.cells #[.pointer (some ⟨m,0,none⟩),.int .u8 k,.int .i64 ref,.int .i64 lists,.int .i64 (at'+4),.int .i64 n,.int .i64 4] 238)=W1 at *
  generalize W0.heap.size=L at *
  obtain ⟨_,t0,t1,t2,_⟩:=blk3 HQ4.out
  go_wp2_with fail
  refine (HSO.out _).mono ?_
  rintro e W2 ⟨rfl,hb2⟩
  have HB2:=Lib.hid (HB1.out.trans (hb2.mono HB1.out.size))
  have HQ5:=Lib.hid (blk_below HQ3.out hb2 (blk_lt HQ3.out))
  have HQ6:=Lib.hid (blk_below HQ4.out hb2 (blk_lt HQ4.out))
  have HM2:=Lib.hid (HM1.out.below hb2)
  have HN2:=Lib.hid (blk_below HNB.out hb2 (blk_lt HNB.out))
  clear hb2 t0 t1 t2
 · obtain ⟨_,m0,m1,m2,_⟩:=blk3 HM2.out.blk
   obtain ⟨_,l0,l1,l2,l3,l4,l5,l6⟩:=blk7 HN2.out
   obtain ⟨_,u0,u1,u2,u3,u4,u5,u6⟩:=blk7 HQ5.out
   have p0:=blk_frozen HQ5.out 0
   have p1:=blk_frozen HQ5.out 1
   have p2:=blk_frozen HQ5.out 2
   have p3:=blk_frozen HQ5.out 3
   have p4:=blk_frozen HQ5.out 4
   have p5:=blk_frozen HQ5.out 5
   have p6:=blk_frozen HQ5.out 6
   go_upto_region 7 with (fail)
   go_quiet (first|(go_at_call 125;exact quiet_same (HWI.out _)))
   cases ok with
   | false =>
    have HPV:Hid (P (.returned (.tuple #[.agg #[.pointer none,.int .u8 0,.int .i64 0,.int .i64 0,.int .i64 0,.int .i64 0,.int .i64 0],.bool false]))):=Lib.hid (by rw [HP.out];exact .inr ⟨rfl,rfl⟩)
    go_wp2
    refine post_gen (fun Wf=>Wf.heap[w.heap.size+1]?=some (.cells #[.pointer none,.int .u8 0,.int .i64 0,.int .i64 0,.int .i64 0,.int .i64 0,.int .i64 0] 238 (0,0))∧Below w.heap.size w Wf) ⟨?_,?_⟩ ?_
    · exact blk_set7 (w:=W2.drewN _) HQ5.out _ _ _ _ _ _ _
    · exact below_set7 (bel_drewN HB2.out _) (Nat.le_succ _) _ _ _ _ _ _ _
    · rintro Wf ⟨e1,e2⟩
      obtain ⟨_,d0,d1,d2,d3,d4,d5,d6⟩:=blk7 e1
      exact bodyPost_ret (v:=.tuple #[.agg #[.pointer none,.int .u8 0,.int .i64 0,.int .i64 0,.int .i64 0,.int .i64 0,.int .i64 0],.bool false]) (by simp [results,Tryd.results145,go_sem,d0,d1,d2,d3,d4,d5,d6]) rfl ⟨HPV.out,e2⟩
   | true =>
    have HPV:Hid (P (.returned (.tuple #[.agg #[.pointer (some ⟨m,0,none⟩),.int .u8 k,.int .i64 ref,.int .i64 lists,.int .i64 (at'+4),.int .i64 n,.int .i64 4],.bool true]))):=Lib.hid (by rw [HP.out];exact .inl ⟨rfl,rfl⟩)
    go_wp2
    refine post_gen (fun Wf=>Wf.heap[w.heap.size+1]?=some (.cells #[.pointer (some ⟨m,0,none⟩),.int .u8 k,.int .i64 ref,.int .i64 lists,.int .i64 (at'+4),.int .i64 n,.int .i64 4] 238 (0,0))∧Below w.heap.size w Wf) ⟨?_,?_⟩ ?_
    · exact blk_set7 (w:=W2.drewN _) HQ5.out _ _ _ _ _ _ _
    · exact below_set7 (bel_drewN HB2.out _) (Nat.le_succ _) _ _ _ _ _ _ _
    · rintro Wf ⟨e1,e2⟩
      obtain ⟨_,d0,d1,d2,d3,d4,d5,d6⟩:=blk7 e1
      exact bodyPost_ret (v:=.tuple #[.agg #[.pointer (some ⟨m,0,none⟩),.int .u8 k,.int .i64 ref,.int .i64 lists,.int .i64 (at'+4),.int .i64 n,.int .i64 4],.bool true]) (by simp [results,Tryd.results145,go_sem,d0,d1,d2,d3,d4,d5,d6]) rfl ⟨HPV.out,e2⟩
 · obtain ⟨_,t0,t1,t2,_⟩:=blk3 HQ6.out
   go_wp2_with fail
   refine (HSZ.out _).mono ?_
   rintro e _ ⟨rfl,rfl⟩
   have HB3:=Lib.hid (HB2.out.setCell (p:=⟨L,6,none⟩) (by have:=HT0.out;show w.heap.size≤L;omega) (.int .i64 st))
   have HQ7:=Lib.hid (blk_set_ne HQ5.out (p:=⟨L,6,none⟩) (by have:=HT0.out;show L≠_;omega) (.int .i64 st))
   have HM3:=Lib.hid (blk_set_ne HM2.out.blk (p:=⟨L,6,none⟩) (by have:=HMT.out;show L≠_;omega) (.int .i64 st))
   have HN3:=Lib.hid ((blk_set HN2.out 6 (.int .i64 st)).trans rfl)
   obtain ⟨_,l0,l1,l2,l3,l4,l5,l6⟩:=blk7 HN2.out
   have lf:=blk_frozen HN2.out 6
   go_upto_region 7 with (fail)
   generalize W2.setCell ⟨L,6,none⟩ (.int .i64 st)=W3 at *
   clear l0 l1 l2 l3 l4 l5 l6 lf t0 t1 t2
   obtain ⟨_,m0,m1,m2,_⟩:=blk3 HM3.out
   obtain ⟨_,l0,l1,l2,l3,l4,l5,l6⟩:=blk7 HN3.out
   obtain ⟨_,u0,u1,u2,u3,u4,u5,u6⟩:=blk7 HQ7.out
   have p0:=blk_frozen HQ7.out 0
   have p1:=blk_frozen HQ7.out 1
   have p2:=blk_frozen HQ7.out 2
   have p3:=blk_frozen HQ7.out 3
   have p4:=blk_frozen HQ7.out 4
   have p5:=blk_frozen HQ7.out 5
   have p6:=blk_frozen HQ7.out 6
   go_quiet (first|(go_at_call 125;exact quiet_same (HWI.out _)))
   cases ok with
   | false =>
    have HPV:Hid (P (.returned (.tuple #[.agg #[.pointer none,.int .u8 0,.int .i64 0,.int .i64 0,.int .i64 0,.int .i64 0,.int .i64 0],.bool false]))):=Lib.hid (by rw [HP.out];exact .inr ⟨rfl,rfl⟩)
    go_wp2
    refine post_gen (fun Wf=>Wf.heap[w.heap.size+1]?=some (.cells #[.pointer none,.int .u8 0,.int .i64 0,.int .i64 0,.int .i64 0,.int .i64 0,.int .i64 0] 238 (0,0))∧Below w.heap.size w Wf) ⟨?_,?_⟩ ?_
    · exact blk_set7 (w:=W3.drewN _) HQ7.out _ _ _ _ _ _ _
    · exact below_set7 (bel_drewN HB3.out _) (Nat.le_succ _) _ _ _ _ _ _ _
    · rintro Wf ⟨e1,e2⟩
      obtain ⟨_,d0,d1,d2,d3,d4,d5,d6⟩:=blk7 e1
      exact bodyPost_ret (v:=.tuple #[.agg #[.pointer none,.int .u8 0,.int .i64 0,.int .i64 0,.int .i64 0,.int .i64 0,.int .i64 0],.bool false]) (by simp [results,Tryd.results145,go_sem,d0,d1,d2,d3,d4,d5,d6]) rfl ⟨HPV.out,e2⟩
   | true =>
    have HPV:Hid (P (.returned (.tuple #[.agg #[.pointer (some ⟨m,0,none⟩),.int .u8 k,.int .i64 ref,.int .i64 lists,.int .i64 (at'+4),.int .i64 n,.int .i64 st],.bool true]))):=Lib.hid (by rw [HP.out];exact .inl ⟨rfl,rfl⟩)
    go_wp2
    refine post_gen (fun Wf=>Wf.heap[w.heap.size+1]?=some (.cells #[.pointer (some ⟨m,0,none⟩),.int .u8 k,.int .i64 ref,.int .i64 lists,.int .i64 (at'+4),.int .i64 n,.int .i64 st] 238 (0,0))∧Below w.heap.size w Wf) ⟨?_,?_⟩ ?_
    · exact blk_set7 (w:=W3.drewN _) HQ7.out _ _ _ _ _ _ _
    · exact below_set7 (bel_drewN HB3.out _) (Nat.le_succ _) _ _ _ _ _ _ _
    · rintro Wf ⟨e1,e2⟩
      obtain ⟨_,d0,d1,d2,d3,d4,d5,d6⟩:=blk7 e1
      exact bodyPost_ret (v:=.tuple #[.agg #[.pointer (some ⟨m,0,none⟩),.int .u8 k,.int .i64 ref,.int .i64 lists,.int .i64 (at'+4),.int .i64 n,.int .i64 st],.bool true]) (by simp [results,Tryd.results145,go_sem,d0,d1,d2,d3,d4,d5,d6]) rfl ⟨HPV.out,e2⟩
end Go.Proofs.YtcfjjocmiheiaaaDoor
