/-
  Package flatread: a kid's bytes in new memory; a kid's list; a field's or an element's struct. Conditions: those that each theorem names.
-/
import Derived.Test.YtcfjjocmiheiaaaDoorPkD52
import Derived.Test.YtcfjjocmiheiaaaDoorPkD17
import Derived.Test.YtcfjjocmiheiaaaDoorPkD18
import Derived.Test.YtcfjjocmiheiaaaDoorPkD26
namespace Go.Proofs.YtcfjjocmiheiaaaDoor
open Go.ChangeShapes Go.WideShapes Go.ChangeAt Go.RowKit Go.Shelf
set_option maxRecDepth 100000 in
set_option maxHeartbeats 8000000 in
theorem fcopied_no (w:World){base m:Nat}{bp:Option Addr}{bc:Nat}{sv ev:Value}{zs:List Int}{fs:List (List CFld × Value)}{ns:List Nat}(h:IsMsg base w m bp bc sv ev zs fs ns)(k:Nat)(ref lists at':Int)(d:Nat) :
  Calls Tryd.prog 176 #[.pointer (some ⟨m,0,none⟩),kidV k ref lists at' d false] w fun e w'=>e=.returned (.slice none 0 0)∧Below w.heap.size w w':=by
 have hb:=(Below.refl w.heap.size w).alloc (Nat.le_refl _) (.cells #[.int .u8 k,.int .i64 ref,.int .i64 lists,.int .i64 at',.int .u64 d,.bool false] 166)
 have HB:=Lib.hid hb
 have HT:=Lib.hid (ftarget_any _ (h.below hb) k ref lists at' d false)
 obtain ⟨_,x0,x1,x2,x3,x4,x5⟩:=blk6 (heap_alloc_new w (.cells #[.int .u8 k,.int .i64 ref,.int .i64 lists,.int .i64 at',.int .u64 d,.bool false] 166))
 unfold kidV at *
 simp only [Bool.false_eq_true,if_false,optV] at HT
 clear hb h
 go_enter Tryd.func176,Tryd.ntmps176
 go_upto_region 1 with (fail)
 generalize w.alloc (.cells #[.int .u8 k,.int .i64 ref,.int .i64 lists,.int .i64 at',.int .u64 d,.bool false] 166)=W0 at *
 go_wp2_with fail
 refine HT.out.mono ?_
 rintro e W1 ⟨rfl,hb1⟩
 have HB1:=Lib.hid (HB.out.trans (hb1.mono HB.out.size))
 clear hb1 x0 x1 x2 x3 x4 x5
 go_wp2
 go_ret
 exact ⟨rfl,HB1.out⟩
set_option maxRecDepth 100000 in
set_option maxHeartbeats 8000000 in
theorem fcopied_ok (w:World){base m:Nat}{bp:Option Addr}{bc:Nat}{sv ev:Value}{zs:List Int}{fs:List (List CFld × Value)}{ns:List Nat}(h:IsMsg base w m bp bc sv ev zs fs ns)(k:Nat)(ref lists at':Int)(d:Nat)(to:Int)(hj:jumpZ zs at'=some to)(hok:bytesOk zs k to=true) :
  Calls Tryd.prog 176 #[.pointer (some ⟨m,0,none⟩),kidV k ref lists at' d true] w fun e w'=>(∃ v,e=.returned v∧∃ A c,v=.slice A (leAt zs to.toNat 4).toNat c∧Bytes w' A (partZ zs (to.toNat+4) (leAt zs to.toNat 4).toNat))∧Below w.heap.size w w':=by
 have hb:=(Below.refl w.heap.size w).alloc (Nat.le_refl _) (.cells #[.int .u8 k,.int .i64 ref,.int .i64 lists,.int .i64 at',.int .u64 d,.bool true] 166)
 have HB:=Lib.hid hb
 have HT:=Lib.hid (ftarget_any _ (h.below hb) k ref lists at' d true)
 have HM:=Lib.hid (h.below hb)
 have HX:=Lib.hid (heap_alloc_new w (.cells #[.int .u8 k,.int .i64 ref,.int .i64 lists,.int .i64 at',.int .u64 d,.bool true] 166))
 obtain ⟨_,x0,x1,x2,x3,x4,x5⟩:=blk6 HX.out
 have hlen:=h.len
 have hpl:(partZ zs (to.toNat+4) (leAt zs to.toNat 4).toNat).length=(leAt zs to.toNat 4).toNat:=partZ_length (by
  have hbk:=hok
  unfold bytesOk at hbk
  rw [Bool.and_eq_true,Bool.and_eq_true] at hbk
  have h2:=inZ_iff.1 hbk.2.1
  have h4:=inZ_iff.1 hbk.1
  have h3:=leAt_4 zs to.toNat h.bytes.1
  unfold lenZ at h2
  omega)
 unfold kidV at *
 rw [if_pos rfl,hj] at HT
 simp only [optV] at HT
 have HOK:=Lib.hid hok
 obtain ⟨n,hn⟩:∃ n,(leAt zs to.toNat 4).toNat=n:=⟨_,rfl⟩
 obtain ⟨ys,hys⟩:∃ ys,partZ zs (to.toNat+4) n=ys:=⟨_,rfl⟩
 rw [hn,hys] at hpl ⊢
 have hyl:ys.length≤zs.length:=by rw [←hys];unfold partZ;rw [List.length_take,List.length_drop];omega
 have HF0:=Lib.hid (fun (W:World) (hW:Below w.heap.size w W)=>(by have h5:=fbytes_any W (h.below hW) k ref lists to;unfold FBytesPost at h5;simp only [hn,hys] at h5;exact h5))
 clear hb h hok hj hn hys
 go_enter Tryd.func176,Tryd.ntmps176
 go_upto_region 1 with (fail)
 generalize w.alloc (.cells #[.int .u8 k,.int .i64 ref,.int .i64 lists,.int .i64 at',.int .u64 d,.bool true] 166)=W0 at *
 go_wp2_with fail
 refine HT.out.mono ?_
 rintro e W1 ⟨rfl,hb1⟩
 have HB1:=Lib.hid (HB.out.trans (hb1.mono HB.out.size))
 have HF:=Lib.hid (HF0.out W1 HB1.out)
 have HX1:=Lib.hid (blk_below HX.out hb1 (blk_lt HX.out))
 clear hb1 x0 x1 x2 x3 x4 x5 HT
 obtain ⟨_,x0,x1,x2,x3,x4,x5⟩:=blk6 HX1.out
 go_wp2_with fail
 refine HF.out.mono ?_
 rintro e W2 ⟨hfp,hb2⟩
 rcases hfp with ⟨_,gg,oo,rfl,hby⟩|⟨hno,_⟩
 case inr=>exact absurd HOK.out (by rw [hno];decide)
 have HB2:=Lib.hid (HB1.out.trans (hb2.mono HB1.out.size))
 have HMEM:=Lib.hid (bytes_mem hby)
 have HCL:=Lib.hid (bclone_any W2 (some ⟨gg,oo,none⟩) _ n hby (by omega))
 rw [hpl] at HCL
 clear hb2 hby x0 x1 x2 x3 x4 x5 HF
 go_wp2_with fail
 refine HCL.out.mono ?_
 rintro e W3 ⟨⟨v,rfl,ho⟩,hb3⟩
 obtain ⟨A,c,rfl⟩:=ownsRow_form ho
 have HO:=Lib.hid (rowB_bytes ho HMEM.out).1
 have HB3:=Lib.hid (HB2.out.trans (hb3.mono HB2.out.size))
 clear ho hb3
 go_wp2
 go_ret
 exact ⟨⟨_,rfl,A,c,rfl,HO.out⟩,HB3.out⟩
set_option maxRecDepth 100000 in
set_option maxHeartbeats 8000000 in
theorem flisted_no (w:World){base m:Nat}{bp:Option Addr}{bc:Nat}{sv ev:Value}{zs:List Int}{fs:List (List CFld × Value)}{ns:List Nat}(h:IsMsg base w m bp bc sv ev zs fs ns)(k:Nat)(ref lists at':Int)(d:Nat) :
  Calls Tryd.prog 177 #[.pointer (some ⟨m,0,none⟩),kidV k ref lists at' d false] w fun e w'=>e=.returned noList∧Below w.heap.size w w':=by
 obtain ⟨hb,hq1,hq2⟩:=two_start w #[.int .u8 k,.int .i64 ref,.int .i64 lists,.int .i64 at',.int .u64 d,.bool false] #[.pointer none,.int .u8 0,.int .i64 0,.int .i64 0,.int .i64 0,.int .i64 0,.int .i64 0] 166 238
 have HB:=Lib.hid hb
 have HT:=Lib.hid (ftarget_any _ (h.below hb) k ref lists at' d false)
 have HQ2:=Lib.hid hq2
 obtain ⟨_,x0,x1,x2,x3,x4,x5⟩:=blk6 hq1
 unfold kidV at *
 unfold noList
 simp only [Bool.false_eq_true,if_false,optV] at HT
 clear hb h hq1 hq2
 go_enter Tryd.func177,Tryd.ntmps177
 go_upto_region 1 with (fail)
 generalize (w.alloc (.cells #[.int .u8 k,.int .i64 ref,.int .i64 lists,.int .i64 at',.int .u64 d,.bool false] 166)).alloc (.cells #[.pointer none,.int .u8 0,.int .i64 0,.int .i64 0,.int .i64 0,.int .i64 0,.int .i64 0] 238)=W0 at *
 go_wp2_with fail
 refine HT.out.mono ?_
 rintro e W1 ⟨rfl,hb1⟩
 have HB1:=Lib.hid (HB.out.trans (hb1.mono HB.out.size))
 have P2:=Lib.hid (blk_below HQ2.out hb1 (blk_lt HQ2.out))
 clear hb1 x0 x1 x2 x3 x4 x5
 obtain ⟨_,u0,u1,u2,u3,u4,u5,u6⟩:=blk7 P2.out
 have p0:=blk_frozen P2.out 0
 have p1:=blk_frozen P2.out 1
 have p2:=blk_frozen P2.out 2
 have p3:=blk_frozen P2.out 3
 have p4:=blk_frozen P2.out 4
 have p5:=blk_frozen P2.out 5
 have p6:=blk_frozen P2.out 6
 go_wp2
 refine post_gen (fun Wf=>Wf.heap[w.heap.size+1]?=some (.cells #[.pointer none,.int .u8 0,.int .i64 0,.int .i64 0,.int .i64 0,.int .i64 0,.int .i64 0] 238 (0,0))∧Below w.heap.size w Wf) ⟨?_,?_⟩ ?_
 · exact blk_set7 P2.out _ _ _ _ _ _ _
 · exact below_set7 HB1.out (Nat.le_succ _) _ _ _ _ _ _ _
 · rintro Wf ⟨e1,e2⟩
   obtain ⟨_,d0,d1,d2,d3,d4,d5,d6⟩:=blk7 e1
   exact bodyPost_ret (v:=.agg #[.pointer none,.int .u8 0,.int .i64 0,.int .i64 0,.int .i64 0,.int .i64 0,.int .i64 0]) (by simp [results,Tryd.results177,go_sem,d0,d1,d2,d3,d4,d5,d6]) rfl ⟨rfl,e2⟩
set_option maxRecDepth 100000 in
set_option maxHeartbeats 8000000 in
theorem flisted_ok (w:World){base m:Nat}{bp:Option Addr}{bc:Nat}{sv ev:Value}{zs:List Int}{fs:List (List CFld × Value)}{ns:List Nat}(h:IsMsg base w m bp bc sv ev zs fs ns)(k:Nat)(ref lists at':Int)(d:Nat)(to:Int)(hj:jumpZ zs at'=some to)(hok:itemsOk zs k (lists-1) to=true)(hl : -9223372036854775807≤lists∧lists≤9223372036854775807) :
  Calls Tryd.prog 177 #[.pointer (some ⟨m,0,none⟩),kidV k ref lists at' d true] w fun e w'=>e=.returned (listV m k ref (lists-1) (to+4) (leAt zs to.toNat 4) (stepZ k (lists-1)))∧Below w.heap.size w w':=by
 obtain ⟨hb,hq1,hq2⟩:=two_start w #[.int .u8 k,.int .i64 ref,.int .i64 lists,.int .i64 at',.int .u64 d,.bool true] #[.pointer none,.int .u8 0,.int .i64 0,.int .i64 0,.int .i64 0,.int .i64 0,.int .i64 0] 166 238
 have HB:=Lib.hid hb
 have HT:=Lib.hid (ftarget_any _ (h.below hb) k ref lists at' d true)
 have HM:=Lib.hid (h.below hb)
 have HX:=Lib.hid hq1
 have HQ2:=Lib.hid hq2
 obtain ⟨_,x0,x1,x2,x3,x4,x5⟩:=blk6 hq1
 have HEL:=Lib.hid (fun W=>element_any k ref lists hl W)
 unfold kidV at *
 unfold listV
 rw [if_pos rfl,hj] at HT
 simp only [optV] at HT
 have HOK:=Lib.hid hok
 clear hb h hok hj hq1 hq2
 obtain ⟨nn,hnn⟩:∃ nn,leAt zs to.toNat 4=nn:=⟨_,rfl⟩
 obtain ⟨st,hst⟩:∃ st,stepZ k (lists-1)=st:=⟨_,rfl⟩
 rw [hnn,hst]
 have HNN:=Lib.hid (And.intro hnn hst)
 clear hnn hst
 go_enter Tryd.func177,Tryd.ntmps177
 go_upto_region 1 with (fail)
 generalize (w.alloc (.cells #[.int .u8 k,.int .i64 ref,.int .i64 lists,.int .i64 at',.int .u64 d,.bool true] 166)).alloc (.cells #[.pointer none,.int .u8 0,.int .i64 0,.int .i64 0,.int .i64 0,.int .i64 0,.int .i64 0] 238)=W0 at *
 go_wp2_with fail
 refine HT.out.mono ?_
 rintro e W1 ⟨rfl,hb1⟩
 have HB1:=Lib.hid (HB.out.trans (hb1.mono HB.out.size))
 have HM1:=Lib.hid (HM.out.below hb1)
 have HX1:=Lib.hid (blk_below HX.out hb1 (blk_lt HX.out))
 have P1:=Lib.hid (blk_below HQ2.out hb1 (blk_lt HQ2.out))
 clear hb1 x0 x1 x2 x3 x4 x5 HT
 obtain ⟨_,x0,x1,x2,x3,x4,x5⟩:=blk6 HX1.out
 go_wp2_with fail
 refine (HEL.out W1).mono ?_
 rintro e W2 ⟨rfl,hb2⟩
 have HB2:=Lib.hid (HB1.out.trans (hb2.mono HB1.out.size))
 have P2:=Lib.hid (blk_below P1.out hb2 (blk_lt P1.out))
 have HF:=Lib.hid (fitems_any W2 (HM1.out.below hb2) k ref (lists-1) to)
 clear hb2 x0 x1 x2 x3 x4 x5
 go_wp2_with fail
 refine HF.out.mono ?_
 rintro e W3 ⟨hfp,hb3⟩
 rcases hfp with ⟨_,rfl⟩|⟨hno,_⟩
 case inr=>exact absurd HOK.out (by rw [hno];decide)
 have HB3:=Lib.hid (HB2.out.trans (hb3.mono HB2.out.size))
 have P3:=Lib.hid (blk_below P2.out hb3 (blk_lt P2.out))
 clear hb3 HF
 unfold listV
 rw [HNN.out.1,HNN.out.2]
 go_upto_region 5 with (fail)
 have hba:Below W3.heap.size W3 (W3.alloc (.cells #[.pointer (some ⟨m,0,none⟩),.int .u8 k,.int .i64 ref,.int .i64 (lists-1),.int .i64 (to+4),.int .i64 nn,.int .i64 st] 238)):=(Below.refl _ _).alloc (Nat.le_refl _) _
 have hn:=heap_alloc_new W3 (.cells #[.pointer (some ⟨m,0,none⟩),.int .u8 k,.int .i64 ref,.int .i64 (lists-1),.int .i64 (to+4),.int .i64 nn,.int .i64 st] 238)
 have HB4:=Lib.hid (HB3.out.trans (hba.mono HB3.out.size))
 have P4:=Lib.hid (blk_below P3.out hba (blk_lt P3.out))
 clear hba
 generalize W3.alloc (.cells #[.pointer (some ⟨m,0,none⟩),.int .u8 k,.int .i64 ref,.int .i64 (lists-1),.int .i64 (to+4),.int .i64 nn,.int .i64 st] 238)=W4 at *
 generalize W3.heap.size=T at *
 obtain ⟨_,y0,y1,y2,y3,y4,y5,y6⟩:=blk7 hn
 clear hn
 obtain ⟨_,u0,u1,u2,u3,u4,u5,u6⟩:=blk7 P4.out
 have p0:=blk_frozen P4.out 0
 have p1:=blk_frozen P4.out 1
 have p2:=blk_frozen P4.out 2
 have p3:=blk_frozen P4.out 3
 have p4:=blk_frozen P4.out 4
 have p5:=blk_frozen P4.out 5
 have p6:=blk_frozen P4.out 6
 go_wp2
 refine post_gen (fun Wf=>Wf.heap[w.heap.size+1]?=some (.cells #[.pointer (some ⟨m,0,none⟩),.int .u8 k,.int .i64 ref,.int .i64 (lists-1),.int .i64 (to+4),.int .i64 nn,.int .i64 st] 238 (0,0))∧Below w.heap.size w Wf) ⟨?_,?_⟩ ?_
 · exact blk_set7 P4.out _ _ _ _ _ _ _
 · exact below_set7 HB4.out (Nat.le_succ _) _ _ _ _ _ _ _
 · rintro Wf ⟨e1,e2⟩
   obtain ⟨_,d0,d1,d2,d3,d4,d5,d6⟩:=blk7 e1
   exact bodyPost_ret (v:=.agg #[.pointer (some ⟨m,0,none⟩),.int .u8 k,.int .i64 ref,.int .i64 (lists-1),.int .i64 (to+4),.int .i64 nn,.int .i64 st]) (by simp [results,Tryd.results177,go_sem,d0,d1,d2,d3,d4,d5,d6]) rfl ⟨rfl,e2⟩
set_option maxRecDepth 100000 in
set_option maxHeartbeats 8000000 in
theorem fsSub_ok (w:World){base m:Nat}{bp:Option Addr}{bc:Nat}{sv ev:Value}{zs:List Int}{fs:List (List CFld × Value)}{ns:List Nat}(h:IsMsg base w m bp bc sv ev zs fs ns)(r p b c d:Int)(j:Int)(kk kd:Nat)(kr kl ka:Int)(to:Int)(t:TabZ)(hj:jumpZ zs ka=some to)(ht:tabZ zs to=some t)
  (hK:∀ W,Below w.heap.size w W→Calls Tryd.prog 101 #[.agg #[.pointer (some ⟨m,0,none⟩),.int .i64 r,.int .i64 p,.int .i64 b,.int .i64 c,.int .i64 d],.int .i64 j,.int .i64 4] W fun e w'=>e=.returned (kidV kk kr kl ka kd true)∧Below W.heap.size W w') :
  Calls Tryd.prog 175 #[.agg #[.pointer (some ⟨m,0,none⟩),.int .i64 r,.int .i64 p,.int .i64 b,.int .i64 c,.int .i64 d],.int .i64 j] w fun e w'=>e=.returned (.tuple #[.iface 120 (strV m kr t to),.bool true])∧Below w.heap.size w w':=by
 have hb:=(Below.refl w.heap.size w).alloc (Nat.le_refl _) (.cells #[.pointer (some ⟨m,0,none⟩),.int .i64 r,.int .i64 p,.int .i64 b,.int .i64 c,.int .i64 d] 120)
 have HB:=Lib.hid hb
 have HX:=Lib.hid (heap_alloc_new w (.cells #[.pointer (some ⟨m,0,none⟩),.int .i64 r,.int .i64 p,.int .i64 b,.int .i64 c,.int .i64 d] 120))
 have HKK:=Lib.hid (fun W (hW:Below (w.alloc (.cells #[.pointer (some ⟨m,0,none⟩),.int .i64 r,.int .i64 p,.int .i64 b,.int .i64 c,.int .i64 d] 120)).heap.size (w.alloc (.cells #[.pointer (some ⟨m,0,none⟩),.int .i64 r,.int .i64 p,.int .i64 b,.int .i64 c,.int .i64 d] 120)) W)=>hK W (hb.trans (hW.mono hb.size)))
 have HPT:=Lib.hid (fun W (hW:Below (w.alloc (.cells #[.pointer (some ⟨m,0,none⟩),.int .i64 r,.int .i64 p,.int .i64 b,.int .i64 c,.int .i64 d] 120)).heap.size (w.alloc (.cells #[.pointer (some ⟨m,0,none⟩),.int .i64 r,.int .i64 p,.int .i64 b,.int .i64 c,.int .i64 d] 120)) W)=>fpointed_any W ((h.below hb).below hW) kk kr kl ka kd true)
 unfold kidV at HKK HPT
 have HJT:=Lib.hid (And.intro hj ht)
 clear hj ht
 clear hb hK h
 go_enter Tryd.func175,Tryd.ntmps175
 go_upto_region 1 with (fail)
 generalize w.alloc (.cells #[.pointer (some ⟨m,0,none⟩),.int .i64 r,.int .i64 p,.int .i64 b,.int .i64 c,.int .i64 d] 120)=W0 at *
 obtain ⟨_,s0,s1,s2,s3,s4,s5⟩:=blk6 HX.out
 refine wp_region_noPanic ?_
 refine wp_region_held_drew (S:=(fun w'=>w'.cell? ⟨w.heap.size,0,none⟩=some (.pointer (some ⟨m,0,none⟩))∧w'.cell? ⟨w.heap.size,1,none⟩=some (.int .i64 r)∧w'.cell? ⟨w.heap.size,2,none⟩=some (.int .i64 p)∧w'.cell? ⟨w.heap.size,3,none⟩=some (.int .i64 b)∧w'.cell? ⟨w.heap.size,4,none⟩=some (.int .i64 c)∧w'.cell? ⟨w.heap.size,5,none⟩=some (.int .i64 d))) (by kernel_rfl) ⟨s0,s1,s2,s3,s4,s5⟩ ?_
 intro hS
 refine tk 0 (.pointer (some ⟨w.heap.size,0,none⟩)) hS ?_ ?_
 · rintro w' ⟨s0,s1,s2,s3,s4,s5⟩
   go_simp
 simp only [td]
 refine tk 1 (.pointer (some ⟨m,0,none⟩)) hS ?_ ?_
 · rintro w' ⟨s0,s1,s2,s3,s4,s5⟩
   go_simp
 simp only [td]
 refine tk 2 (.agg #[.pointer (some ⟨m,0,none⟩),.int .i64 r,.int .i64 p,.int .i64 b,.int .i64 c,.int .i64 d]) hS ?_ ?_
 · rintro w' ⟨s0,s1,s2,s3,s4,s5⟩
   go_simp
 simp only [td]
 refine tk 3 (.int .i64 j) hS ?_ ?_
 · rintro w' ⟨s0,s1,s2,s3,s4,s5⟩
   go_simp
 simp only [td]
 refine wpAnyH_ready (rs:=[4,9]) (by kernel_rfl) (by decide) (AllReadyH.cons rfl (fun K hK=>?_) (AllReadyH.cons rfl (fun K hK=>?_) AllReadyH.nil))
 · rw [if_pos (by kernel_rfl)]
   go_simp
   refine (HKK.out W0.drew ((Below.refl _ W0).drew)).mono ?_
   rintro e V1 ⟨rfl,hb1⟩
   have hv1:Below W0.heap.size W0 V1:=(Below.refl _ W0).drew.trans hb1
   have nn0:=cell_stays hv1 s0
   have nn1:=cell_stays hv1 s1
   have nn2:=cell_stays hv1 s2
   have nn3:=cell_stays hv1 s3
   have nn4:=cell_stays hv1 s4
   have nn5:=cell_stays hv1 s5
   refine hK.out _ _ ⟨nn0,nn1,nn2,nn3,nn4,nn5⟩ (fun hS=>?_)
   clear nn0 nn1 nn2 nn3 nn4 nn5
   refine wpAnyH_ready (rs:=[5,9]) (by kernel_rfl) (by decide) (AllReadyH.cons rfl (fun K hK=>?_) (AllReadyH.cons rfl (fun K hK=>?_) AllReadyH.nil))
   · rw [if_pos (by kernel_rfl)]
     go_simp
     refine (HPT.out V1 hv1).mono ?_
     rintro e V2 ⟨hpt,hb2⟩
     have hv2:Below W0.heap.size W0 V2:=hv1.trans (hb2.mono hv1.size)
     obtain ⟨p',rr,a',b',c',d',okk,rfl,hp1,hval⟩:∃ (p':Value) (rr a' b' c' d':Int) (okk:Bool),e=.returned (.tuple #[.agg #[p',.int .i64 rr,.int .i64 a',.int .i64 b',.int .i64 c',.int .i64 d'],.bool okk])∧p'.oneCell'=true∧(okk=true∧Value.agg #[p',.int .i64 rr,.int .i64 a',.int .i64 b',.int .i64 c',.int .i64 d']=strV m kr t to):=by
      rcases hpt with ⟨to',t',_,hj,ht,rfl⟩|⟨hn,_⟩
      · have h1:=HJT.out.1
        rw [hj] at h1
        injection h1 with h1
        subst h1
        have h2:=HJT.out.2
        rw [ht] at h2
        injection h2 with h2
        subst h2
        exact ⟨_,_,_,_,_,_,true,rfl,rfl,rfl,rfl⟩
      · have h1:=hn rfl to HJT.out.1
        rw [HJT.out.2] at h1
        cases h1
     have HVAL:=Lib.hid hval
     clear hval
     have nn0:=cell_stays hv2 s0
     have nn1:=cell_stays hv2 s1
     have nn2:=cell_stays hv2 s2
     have nn3:=cell_stays hv2 s3
     have nn4:=cell_stays hv2 s4
     have nn5:=cell_stays hv2 s5
     refine hK.out _ _ ⟨nn0,nn1,nn2,nn3,nn4,nn5⟩ (fun hS=>?_)
     clear nn0 nn1 nn2 nn3 nn4 nn5
     refine tk 6 (.tuple #[.agg #[p',.int .i64 rr,.int .i64 a',.int .i64 b',.int .i64 c',.int .i64 d'],.bool okk]) hS ?_ ?_
     · rintro w' ⟨s0,s1,s2,s3,s4,s5⟩
       go_simp
     simp only [td]
     refine tk 7 (.agg #[p',.int .i64 rr,.int .i64 a',.int .i64 b',.int .i64 c',.int .i64 d']) hS ?_ ?_
     · rintro w' ⟨s0,s1,s2,s3,s4,s5⟩
       go_simp
     simp only [td]
     refine tk 8 (.bool okk) hS ?_ ?_
     · rintro w' ⟨s0,s1,s2,s3,s4,s5⟩
       go_simp
     simp only [td]
     refine wpAnyH_ready (rs:=[9]) (by kernel_rfl) (by decide) (AllReadyH.cons rfl (fun K hK=>?_) AllReadyH.nil)
     rw [if_pos (by kernel_rfl)]
     go_simp
     have hv3:Below W0.heap.size W0 (V2.alloc (.cells #[.pointer none,.int .i64 0,.int .i64 0,.int .i64 0,.int .i64 0,.int .i64 0] 120)):=hv2.alloc hv2.size _
     have hT3:=heap_alloc_new V2 (.cells #[.pointer none,.int .i64 0,.int .i64 0,.int .i64 0,.int .i64 0,.int .i64 0] 120)
     have nn0:=cell_stays hv3 s0
     have nn1:=cell_stays hv3 s1
     have nn2:=cell_stays hv3 s2
     have nn3:=cell_stays hv3 s3
     have nn4:=cell_stays hv3 s4
     have nn5:=cell_stays hv3 s5
     refine hK.out _ _ ⟨nn0,nn1,nn2,nn3,nn4,nn5⟩ (fun hS=>?_)
     clear nn0 nn1 nn2 nn3 nn4 nn5
     generalize V2.alloc (.cells #[.pointer none,.int .i64 0,.int .i64 0,.int .i64 0,.int .i64 0,.int .i64 0] 120)=V3 at *
     have hthere:V3.there (V2.heap.size) 0 6:=fun i hi=>by
      have h4:i=0∨i=1∨i=2∨i=3∨i=4∨i=5:=by omega
      obtain ⟨_,v0,v1,v2,v3,v4,v5⟩:=blk6 hT3
      rcases h4 with rfl|rfl|rfl|rfl|rfl|rfl
      · exact ⟨by rw [Nat.add_zero,v0];rfl,blk_frozen hT3 _⟩
      · exact ⟨by rw [Nat.zero_add,v1];rfl,blk_frozen hT3 _⟩
      · exact ⟨by rw [Nat.zero_add,v2];rfl,blk_frozen hT3 _⟩
      · exact ⟨by rw [Nat.zero_add,v3];rfl,blk_frozen hT3 _⟩
      · exact ⟨by rw [Nat.zero_add,v4];rfl,blk_frozen hT3 _⟩
      · exact ⟨by rw [Nat.zero_add,v5];rfl,blk_frozen hT3 _⟩
     refine wpAnyH_ready (rs:=[10]) (by kernel_rfl) (by decide) (AllReadyH.cons rfl (fun K hK=>?_) AllReadyH.nil)
     rw [if_pos (by kernel_rfl)]
     refine wp_store_mid 120 (.tmp 6) (.tmp 15) rfl (V2.heap.size) 0 #[p',.int .i64 rr,.int .i64 a',.int .i64 b',.int .i64 c',.int .i64 d'] rfl rfl hthere (by kernel_rfl) (Array.all_eq_true_iff_forall_mem.2 (by intro x hx;simp at hx;rcases hx with rfl|rfl|rfl|rfl|rfl|rfl<;>first|rfl|exact hp1)) ?_
     change K _ (set6 V3 (V2.heap.size) p' (.int .i64 rr) (.int .i64 a') (.int .i64 b') (.int .i64 c') (.int .i64 d'))
     have hTS:W0.heap.size≤V2.heap.size:=hv2.size
     have hks:∀ (bb o:Nat) (cc:Value),bb<W0.heap.size→W0.cell? ⟨bb,o,none⟩=some cc→(set6 V3 (V2.heap.size) p' (.int .i64 rr) (.int .i64 a') (.int .i64 b') (.int .i64 c') (.int .i64 d')).cell? ⟨bb,o,none⟩=some cc:=fun bb o cc hbb hcc=>keep6 (cell_stays hv3 hcc) (by show bb≠_;omega)
     refine hK.out _ _ ⟨hks _ _ _ (World.block_lt_of_cell? _ _ s0) s0,hks _ _ _ (World.block_lt_of_cell? _ _ s1) s1,hks _ _ _ (World.block_lt_of_cell? _ _ s2) s2,hks _ _ _ (World.block_lt_of_cell? _ _ s3) s3,hks _ _ _ (World.block_lt_of_cell? _ _ s4) s4,hks _ _ _ (World.block_lt_of_cell? _ _ s5) s5⟩ (fun hS=>?_)
     refine tk 11 (.bool okk) hS ?_ ?_
     · rintro w' ⟨s0,s1,s2,s3,s4,s5⟩
       go_simp
     simp only [td]
     refine wpAnyH_done (by kernel_rfl) ?_ _
     refine NoPanic.normal ?_
     try simp only [Exit.then]
     have HE1:=Lib.hid (show (set6 V3 (V2.heap.size) p' (.int .i64 rr) (.int .i64 a') (.int .i64 b') (.int .i64 c') (.int .i64 d')).heap[V2.heap.size]?=some (.cells #[p',.int .i64 rr,.int .i64 a',.int .i64 b',.int .i64 c',.int .i64 d'] 120 (0,0)) from blk_set6 hT3 _ _ _ _ _ _)
     have HE2:=Lib.hid (HB.out.trans ((show Below W0.heap.size W0 (set6 V3 (V2.heap.size) p' (.int .i64 rr) (.int .i64 a') (.int .i64 b') (.int .i64 c') (.int .i64 d')) from below_set6 hv3 hTS _ _ _ _ _ _).mono HB.out.size))
     clear hS hks hthere s0 s1 s2 s3 s4 s5 hTS hpt
     generalize set6 V3 (V2.heap.size) p' (.int .i64 rr) (.int .i64 a') (.int .i64 b') (.int .i64 c') (.int .i64 d')=W9 at *
     obtain ⟨_,q0,q1,q2,q3,q4,q5⟩:=blk6 HE1.out
     obtain ⟨rfl,hval⟩:=HVAL.out
     have HV:=Lib.hid hval
     clear hval
     go_wp2
     go_ret2
     exact ⟨by rw [←HV.out];rfl,HE2.out⟩
   · rw [if_pos (by kernel_rfl)]
     go_simp
     have hv2:Below W0.heap.size W0 (V1.alloc (.cells #[.pointer none,.int .i64 0,.int .i64 0,.int .i64 0,.int .i64 0,.int .i64 0] 120)):=hv1.alloc hv1.size _
     have hT2:=heap_alloc_new V1 (.cells #[.pointer none,.int .i64 0,.int .i64 0,.int .i64 0,.int .i64 0,.int .i64 0] 120)
     have nn0:=cell_stays hv2 s0
     have nn1:=cell_stays hv2 s1
     have nn2:=cell_stays hv2 s2
     have nn3:=cell_stays hv2 s3
     have nn4:=cell_stays hv2 s4
     have nn5:=cell_stays hv2 s5
     refine hK.out _ _ ⟨nn0,nn1,nn2,nn3,nn4,nn5⟩ (fun hS=>?_)
     clear nn0 nn1 nn2 nn3 nn4 nn5
     generalize V1.alloc (.cells #[.pointer none,.int .i64 0,.int .i64 0,.int .i64 0,.int .i64 0,.int .i64 0] 120)=V2 at *
     refine wpAnyH_ready (rs:=[5]) (by kernel_rfl) (by decide) (AllReadyH.cons rfl (fun K hK=>?_) AllReadyH.nil)
     rw [if_pos (by kernel_rfl)]
     go_simp
     refine (HPT.out V2 hv2).mono ?_
     rintro e V3 ⟨hpt,hb3⟩
     have hv3:Below W0.heap.size W0 V3:=hv2.trans (hb3.mono hv2.size)
     obtain ⟨p',rr,a',b',c',d',okk,rfl,hp1,hval⟩:∃ (p':Value) (rr a' b' c' d':Int) (okk:Bool),e=.returned (.tuple #[.agg #[p',.int .i64 rr,.int .i64 a',.int .i64 b',.int .i64 c',.int .i64 d'],.bool okk])∧p'.oneCell'=true∧(okk=true∧Value.agg #[p',.int .i64 rr,.int .i64 a',.int .i64 b',.int .i64 c',.int .i64 d']=strV m kr t to):=by
      rcases hpt with ⟨to',t',_,hj,ht,rfl⟩|⟨hn,_⟩
      · have h1:=HJT.out.1
        rw [hj] at h1
        injection h1 with h1
        subst h1
        have h2:=HJT.out.2
        rw [ht] at h2
        injection h2 with h2
        subst h2
        exact ⟨_,_,_,_,_,_,true,rfl,rfl,rfl,rfl⟩
      · have h1:=hn rfl to HJT.out.1
        rw [HJT.out.2] at h1
        cases h1
     have HVAL:=Lib.hid hval
     clear hval
     have nn0:=cell_stays hv3 s0
     have nn1:=cell_stays hv3 s1
     have nn2:=cell_stays hv3 s2
     have nn3:=cell_stays hv3 s3
     have nn4:=cell_stays hv3 s4
     have nn5:=cell_stays hv3 s5
     refine hK.out _ _ ⟨nn0,nn1,nn2,nn3,nn4,nn5⟩ (fun hS=>?_)
     clear nn0 nn1 nn2 nn3 nn4 nn5
     refine tk 6 (.tuple #[.agg #[p',.int .i64 rr,.int .i64 a',.int .i64 b',.int .i64 c',.int .i64 d'],.bool okk]) hS ?_ ?_
     · rintro w' ⟨s0,s1,s2,s3,s4,s5⟩
       go_simp
     simp only [td]
     refine tk 7 (.agg #[p',.int .i64 rr,.int .i64 a',.int .i64 b',.int .i64 c',.int .i64 d']) hS ?_ ?_
     · rintro w' ⟨s0,s1,s2,s3,s4,s5⟩
       go_simp
     simp only [td]
     refine tk 8 (.bool okk) hS ?_ ?_
     · rintro w' ⟨s0,s1,s2,s3,s4,s5⟩
       go_simp
     simp only [td]
     have hT3:=blk_below hT2 hb3 (blk_lt hT2)
     have hthere:V3.there (V1.heap.size) 0 6:=fun i hi=>by
      have h4:i=0∨i=1∨i=2∨i=3∨i=4∨i=5:=by omega
      obtain ⟨_,v0,v1,v2,v3,v4,v5⟩:=blk6 hT3
      rcases h4 with rfl|rfl|rfl|rfl|rfl|rfl
      · exact ⟨by rw [Nat.add_zero,v0];rfl,blk_frozen hT3 _⟩
      · exact ⟨by rw [Nat.zero_add,v1];rfl,blk_frozen hT3 _⟩
      · exact ⟨by rw [Nat.zero_add,v2];rfl,blk_frozen hT3 _⟩
      · exact ⟨by rw [Nat.zero_add,v3];rfl,blk_frozen hT3 _⟩
      · exact ⟨by rw [Nat.zero_add,v4];rfl,blk_frozen hT3 _⟩
      · exact ⟨by rw [Nat.zero_add,v5];rfl,blk_frozen hT3 _⟩
     refine wpAnyH_ready (rs:=[10]) (by kernel_rfl) (by decide) (AllReadyH.cons rfl (fun K hK=>?_) AllReadyH.nil)
     rw [if_pos (by kernel_rfl)]
     refine wp_store_mid 120 (.tmp 6) (.tmp 15) rfl (V1.heap.size) 0 #[p',.int .i64 rr,.int .i64 a',.int .i64 b',.int .i64 c',.int .i64 d'] rfl rfl hthere (by kernel_rfl) (Array.all_eq_true_iff_forall_mem.2 (by intro x hx;simp at hx;rcases hx with rfl|rfl|rfl|rfl|rfl|rfl<;>first|rfl|exact hp1)) ?_
     change K _ (set6 V3 (V1.heap.size) p' (.int .i64 rr) (.int .i64 a') (.int .i64 b') (.int .i64 c') (.int .i64 d'))
     have hTS:W0.heap.size≤V1.heap.size:=hv1.size
     have hks:∀ (bb o:Nat) (cc:Value),bb<W0.heap.size→W0.cell? ⟨bb,o,none⟩=some cc→(set6 V3 (V1.heap.size) p' (.int .i64 rr) (.int .i64 a') (.int .i64 b') (.int .i64 c') (.int .i64 d')).cell? ⟨bb,o,none⟩=some cc:=fun bb o cc hbb hcc=>keep6 (cell_stays hv3 hcc) (by show bb≠_;omega)
     refine hK.out _ _ ⟨hks _ _ _ (World.block_lt_of_cell? _ _ s0) s0,hks _ _ _ (World.block_lt_of_cell? _ _ s1) s1,hks _ _ _ (World.block_lt_of_cell? _ _ s2) s2,hks _ _ _ (World.block_lt_of_cell? _ _ s3) s3,hks _ _ _ (World.block_lt_of_cell? _ _ s4) s4,hks _ _ _ (World.block_lt_of_cell? _ _ s5) s5⟩ (fun hS=>?_)
     refine tk 11 (.bool okk) hS ?_ ?_
     · rintro w' ⟨s0,s1,s2,s3,s4,s5⟩
       go_simp
     simp only [td]
     refine wpAnyH_done (by kernel_rfl) ?_ _
     refine NoPanic.normal ?_
     try simp only [Exit.then]
     have HE1:=Lib.hid (show (set6 V3 (V1.heap.size) p' (.int .i64 rr) (.int .i64 a') (.int .i64 b') (.int .i64 c') (.int .i64 d')).heap[V1.heap.size]?=some (.cells #[p',.int .i64 rr,.int .i64 a',.int .i64 b',.int .i64 c',.int .i64 d'] 120 (0,0)) from blk_set6 hT3 _ _ _ _ _ _)
     have HE2:=Lib.hid (HB.out.trans ((show Below W0.heap.size W0 (set6 V3 (V1.heap.size) p' (.int .i64 rr) (.int .i64 a') (.int .i64 b') (.int .i64 c') (.int .i64 d')) from below_set6 hv3 hTS _ _ _ _ _ _).mono HB.out.size))
     clear hS hks hthere s0 s1 s2 s3 s4 s5 hTS hpt
     generalize set6 V3 (V1.heap.size) p' (.int .i64 rr) (.int .i64 a') (.int .i64 b') (.int .i64 c') (.int .i64 d')=W9 at *
     obtain ⟨_,q0,q1,q2,q3,q4,q5⟩:=blk6 HE1.out
     obtain ⟨rfl,hval⟩:=HVAL.out
     have HV:=Lib.hid hval
     clear hval
     go_wp2
     go_ret2
     exact ⟨by rw [←HV.out];rfl,HE2.out⟩
 · rw [if_pos (by kernel_rfl)]
   go_simp
   have hv1:Below W0.heap.size W0 ((W0.alloc (.cells #[.pointer none,.int .i64 0,.int .i64 0,.int .i64 0,.int .i64 0,.int .i64 0] 120)).drew):=((Below.refl _ W0).alloc (Nat.le_refl _) _).drew
   have hT1:((W0.alloc (.cells #[.pointer none,.int .i64 0,.int .i64 0,.int .i64 0,.int .i64 0,.int .i64 0] 120)).drew).heap[W0.heap.size]?=some (.cells #[.pointer none,.int .i64 0,.int .i64 0,.int .i64 0,.int .i64 0,.int .i64 0] 120 (0,0)):=heap_alloc_new W0 _
   have nn0:=cell_stays hv1 s0
   have nn1:=cell_stays hv1 s1
   have nn2:=cell_stays hv1 s2
   have nn3:=cell_stays hv1 s3
   have nn4:=cell_stays hv1 s4
   have nn5:=cell_stays hv1 s5
   refine hK.out _ _ ⟨nn0,nn1,nn2,nn3,nn4,nn5⟩ (fun hS=>?_)
   clear nn0 nn1 nn2 nn3 nn4 nn5
   generalize (W0.alloc (.cells #[.pointer none,.int .i64 0,.int .i64 0,.int .i64 0,.int .i64 0,.int .i64 0] 120)).drew=V1 at *
   refine wpAnyH_ready (rs:=[4]) (by kernel_rfl) (by decide) (AllReadyH.cons rfl (fun K hK=>?_) AllReadyH.nil)
   rw [if_pos (by kernel_rfl)]
   go_simp
   refine (HKK.out V1 hv1).mono ?_
   rintro e V2 ⟨rfl,hb2⟩
   have hv2:Below W0.heap.size W0 V2:=hv1.trans (hb2.mono hv1.size)
   have nn0:=cell_stays hv2 s0
   have nn1:=cell_stays hv2 s1
   have nn2:=cell_stays hv2 s2
   have nn3:=cell_stays hv2 s3
   have nn4:=cell_stays hv2 s4
   have nn5:=cell_stays hv2 s5
   refine hK.out _ _ ⟨nn0,nn1,nn2,nn3,nn4,nn5⟩ (fun hS=>?_)
   clear nn0 nn1 nn2 nn3 nn4 nn5
   refine wpAnyH_ready (rs:=[5]) (by kernel_rfl) (by decide) (AllReadyH.cons rfl (fun K hK=>?_) AllReadyH.nil)
   rw [if_pos (by kernel_rfl)]
   go_simp
   refine (HPT.out V2 hv2).mono ?_
   rintro e V3 ⟨hpt,hb3⟩
   have hv3:Below W0.heap.size W0 V3:=hv2.trans (hb3.mono hv2.size)
   obtain ⟨p',rr,a',b',c',d',okk,rfl,hp1,hval⟩:∃ (p':Value) (rr a' b' c' d':Int) (okk:Bool),e=.returned (.tuple #[.agg #[p',.int .i64 rr,.int .i64 a',.int .i64 b',.int .i64 c',.int .i64 d'],.bool okk])∧p'.oneCell'=true∧(okk=true∧Value.agg #[p',.int .i64 rr,.int .i64 a',.int .i64 b',.int .i64 c',.int .i64 d']=strV m kr t to):=by
    rcases hpt with ⟨to',t',_,hj,ht,rfl⟩|⟨hn,_⟩
    · have h1:=HJT.out.1
      rw [hj] at h1
      injection h1 with h1
      subst h1
      have h2:=HJT.out.2
      rw [ht] at h2
      injection h2 with h2
      subst h2
      exact ⟨_,_,_,_,_,_,true,rfl,rfl,rfl,rfl⟩
    · have h1:=hn rfl to HJT.out.1
      rw [HJT.out.2] at h1
      cases h1
   have HVAL:=Lib.hid hval
   clear hval
   have nn0:=cell_stays hv3 s0
   have nn1:=cell_stays hv3 s1
   have nn2:=cell_stays hv3 s2
   have nn3:=cell_stays hv3 s3
   have nn4:=cell_stays hv3 s4
   have nn5:=cell_stays hv3 s5
   refine hK.out _ _ ⟨nn0,nn1,nn2,nn3,nn4,nn5⟩ (fun hS=>?_)
   clear nn0 nn1 nn2 nn3 nn4 nn5
   refine tk 6 (.tuple #[.agg #[p',.int .i64 rr,.int .i64 a',.int .i64 b',.int .i64 c',.int .i64 d'],.bool okk]) hS ?_ ?_
   · rintro w' ⟨s0,s1,s2,s3,s4,s5⟩
     go_simp
   simp only [td]
   refine tk 7 (.agg #[p',.int .i64 rr,.int .i64 a',.int .i64 b',.int .i64 c',.int .i64 d']) hS ?_ ?_
   · rintro w' ⟨s0,s1,s2,s3,s4,s5⟩
     go_simp
   simp only [td]
   refine tk 8 (.bool okk) hS ?_ ?_
   · rintro w' ⟨s0,s1,s2,s3,s4,s5⟩
     go_simp
   simp only [td]
   have hT3:=blk_below (blk_below hT1 hb2 (blk_lt hT1)) hb3 (blk_lt (blk_below hT1 hb2 (blk_lt hT1)))
   have hthere:V3.there (W0.heap.size) 0 6:=fun i hi=>by
    have h4:i=0∨i=1∨i=2∨i=3∨i=4∨i=5:=by omega
    obtain ⟨_,v0,v1,v2,v3,v4,v5⟩:=blk6 hT3
    rcases h4 with rfl|rfl|rfl|rfl|rfl|rfl
    · exact ⟨by rw [Nat.add_zero,v0];rfl,blk_frozen hT3 _⟩
    · exact ⟨by rw [Nat.zero_add,v1];rfl,blk_frozen hT3 _⟩
    · exact ⟨by rw [Nat.zero_add,v2];rfl,blk_frozen hT3 _⟩
    · exact ⟨by rw [Nat.zero_add,v3];rfl,blk_frozen hT3 _⟩
    · exact ⟨by rw [Nat.zero_add,v4];rfl,blk_frozen hT3 _⟩
    · exact ⟨by rw [Nat.zero_add,v5];rfl,blk_frozen hT3 _⟩
   refine wpAnyH_ready (rs:=[10]) (by kernel_rfl) (by decide) (AllReadyH.cons rfl (fun K hK=>?_) AllReadyH.nil)
   rw [if_pos (by kernel_rfl)]
   refine wp_store_mid 120 (.tmp 6) (.tmp 15) rfl (W0.heap.size) 0 #[p',.int .i64 rr,.int .i64 a',.int .i64 b',.int .i64 c',.int .i64 d'] rfl rfl hthere (by kernel_rfl) (Array.all_eq_true_iff_forall_mem.2 (by intro x hx;simp at hx;rcases hx with rfl|rfl|rfl|rfl|rfl|rfl<;>first|rfl|exact hp1)) ?_
   change K _ (set6 V3 (W0.heap.size) p' (.int .i64 rr) (.int .i64 a') (.int .i64 b') (.int .i64 c') (.int .i64 d'))
   have hTS:W0.heap.size≤W0.heap.size:=Nat.le_refl _
   have hks:∀ (bb o:Nat) (cc:Value),bb<W0.heap.size→W0.cell? ⟨bb,o,none⟩=some cc→(set6 V3 (W0.heap.size) p' (.int .i64 rr) (.int .i64 a') (.int .i64 b') (.int .i64 c') (.int .i64 d')).cell? ⟨bb,o,none⟩=some cc:=fun bb o cc hbb hcc=>keep6 (cell_stays hv3 hcc) (by show bb≠_;omega)
   refine hK.out _ _ ⟨hks _ _ _ (World.block_lt_of_cell? _ _ s0) s0,hks _ _ _ (World.block_lt_of_cell? _ _ s1) s1,hks _ _ _ (World.block_lt_of_cell? _ _ s2) s2,hks _ _ _ (World.block_lt_of_cell? _ _ s3) s3,hks _ _ _ (World.block_lt_of_cell? _ _ s4) s4,hks _ _ _ (World.block_lt_of_cell? _ _ s5) s5⟩ (fun hS=>?_)
   refine tk 11 (.bool okk) hS ?_ ?_
   · rintro w' ⟨s0,s1,s2,s3,s4,s5⟩
     go_simp
   simp only [td]
   refine wpAnyH_done (by kernel_rfl) ?_ _
   refine NoPanic.normal ?_
   try simp only [Exit.then]
   have HE1:=Lib.hid (show (set6 V3 (W0.heap.size) p' (.int .i64 rr) (.int .i64 a') (.int .i64 b') (.int .i64 c') (.int .i64 d')).heap[W0.heap.size]?=some (.cells #[p',.int .i64 rr,.int .i64 a',.int .i64 b',.int .i64 c',.int .i64 d'] 120 (0,0)) from blk_set6 hT3 _ _ _ _ _ _)
   have HE2:=Lib.hid (HB.out.trans ((show Below W0.heap.size W0 (set6 V3 (W0.heap.size) p' (.int .i64 rr) (.int .i64 a') (.int .i64 b') (.int .i64 c') (.int .i64 d')) from below_set6 hv3 hTS _ _ _ _ _ _).mono HB.out.size))
   clear hS hks hthere s0 s1 s2 s3 s4 s5 hTS hpt
   generalize set6 V3 (W0.heap.size) p' (.int .i64 rr) (.int .i64 a') (.int .i64 b') (.int .i64 c') (.int .i64 d')=W9 at *
   obtain ⟨_,q0,q1,q2,q3,q4,q5⟩:=blk6 HE1.out
   obtain ⟨rfl,hval⟩:=HVAL.out
   have HV:=Lib.hid hval
   clear hval
   go_wp2
   go_ret2
   exact ⟨by rw [←HV.out];rfl,HE2.out⟩
set_option maxRecDepth 100000 in
set_option maxHeartbeats 8000000 in
theorem fsSub_no (w:World){base m:Nat}{bp:Option Addr}{bc:Nat}{sv ev:Value}{zs:List Int}{fs:List (List CFld × Value)}{ns:List Nat}(h:IsMsg base w m bp bc sv ev zs fs ns)(r p b c d:Int)(j:Int)(kk kd:Nat)(kr kl ka:Int) 
  (hK:∀ W,Below w.heap.size w W→Calls Tryd.prog 101 #[.agg #[.pointer (some ⟨m,0,none⟩),.int .i64 r,.int .i64 p,.int .i64 b,.int .i64 c,.int .i64 d],.int .i64 j,.int .i64 4] W fun e w'=>e=.returned (kidV kk kr kl ka kd false)∧Below W.heap.size W w') :
  Calls Tryd.prog 175 #[.agg #[.pointer (some ⟨m,0,none⟩),.int .i64 r,.int .i64 p,.int .i64 b,.int .i64 c,.int .i64 d],.int .i64 j] w fun e w'=>e=.returned (.tuple #[.nilIface,.bool false])∧Below w.heap.size w w':=by
 have hb:=(Below.refl w.heap.size w).alloc (Nat.le_refl _) (.cells #[.pointer (some ⟨m,0,none⟩),.int .i64 r,.int .i64 p,.int .i64 b,.int .i64 c,.int .i64 d] 120)
 have HB:=Lib.hid hb
 have HX:=Lib.hid (heap_alloc_new w (.cells #[.pointer (some ⟨m,0,none⟩),.int .i64 r,.int .i64 p,.int .i64 b,.int .i64 c,.int .i64 d] 120))
 have HKK:=Lib.hid (fun W (hW:Below (w.alloc (.cells #[.pointer (some ⟨m,0,none⟩),.int .i64 r,.int .i64 p,.int .i64 b,.int .i64 c,.int .i64 d] 120)).heap.size (w.alloc (.cells #[.pointer (some ⟨m,0,none⟩),.int .i64 r,.int .i64 p,.int .i64 b,.int .i64 c,.int .i64 d] 120)) W)=>hK W (hb.trans (hW.mono hb.size)))
 have HPT:=Lib.hid (fun W (hW:Below (w.alloc (.cells #[.pointer (some ⟨m,0,none⟩),.int .i64 r,.int .i64 p,.int .i64 b,.int .i64 c,.int .i64 d] 120)).heap.size (w.alloc (.cells #[.pointer (some ⟨m,0,none⟩),.int .i64 r,.int .i64 p,.int .i64 b,.int .i64 c,.int .i64 d] 120)) W)=>fpointed_any W ((h.below hb).below hW) kk kr kl ka kd false)
 unfold kidV at HKK HPT
 clear hb hK h
 go_enter Tryd.func175,Tryd.ntmps175
 go_upto_region 1 with (fail)
 generalize w.alloc (.cells #[.pointer (some ⟨m,0,none⟩),.int .i64 r,.int .i64 p,.int .i64 b,.int .i64 c,.int .i64 d] 120)=W0 at *
 obtain ⟨_,s0,s1,s2,s3,s4,s5⟩:=blk6 HX.out
 refine wp_region_noPanic ?_
 refine wp_region_held_drew (S:=(fun w'=>w'.cell? ⟨w.heap.size,0,none⟩=some (.pointer (some ⟨m,0,none⟩))∧w'.cell? ⟨w.heap.size,1,none⟩=some (.int .i64 r)∧w'.cell? ⟨w.heap.size,2,none⟩=some (.int .i64 p)∧w'.cell? ⟨w.heap.size,3,none⟩=some (.int .i64 b)∧w'.cell? ⟨w.heap.size,4,none⟩=some (.int .i64 c)∧w'.cell? ⟨w.heap.size,5,none⟩=some (.int .i64 d))) (by kernel_rfl) ⟨s0,s1,s2,s3,s4,s5⟩ ?_
 intro hS
 refine tk 0 (.pointer (some ⟨w.heap.size,0,none⟩)) hS ?_ ?_
 · rintro w' ⟨s0,s1,s2,s3,s4,s5⟩
   go_simp
 simp only [td]
 refine tk 1 (.pointer (some ⟨m,0,none⟩)) hS ?_ ?_
 · rintro w' ⟨s0,s1,s2,s3,s4,s5⟩
   go_simp
 simp only [td]
 refine tk 2 (.agg #[.pointer (some ⟨m,0,none⟩),.int .i64 r,.int .i64 p,.int .i64 b,.int .i64 c,.int .i64 d]) hS ?_ ?_
 · rintro w' ⟨s0,s1,s2,s3,s4,s5⟩
   go_simp
 simp only [td]
 refine tk 3 (.int .i64 j) hS ?_ ?_
 · rintro w' ⟨s0,s1,s2,s3,s4,s5⟩
   go_simp
 simp only [td]
 refine wpAnyH_ready (rs:=[4,9]) (by kernel_rfl) (by decide) (AllReadyH.cons rfl (fun K hK=>?_) (AllReadyH.cons rfl (fun K hK=>?_) AllReadyH.nil))
 · rw [if_pos (by kernel_rfl)]
   go_simp
   refine (HKK.out W0.drew ((Below.refl _ W0).drew)).mono ?_
   rintro e V1 ⟨rfl,hb1⟩
   have hv1:Below W0.heap.size W0 V1:=(Below.refl _ W0).drew.trans hb1
   have nn0:=cell_stays hv1 s0
   have nn1:=cell_stays hv1 s1
   have nn2:=cell_stays hv1 s2
   have nn3:=cell_stays hv1 s3
   have nn4:=cell_stays hv1 s4
   have nn5:=cell_stays hv1 s5
   refine hK.out _ _ ⟨nn0,nn1,nn2,nn3,nn4,nn5⟩ (fun hS=>?_)
   clear nn0 nn1 nn2 nn3 nn4 nn5
   refine wpAnyH_ready (rs:=[5,9]) (by kernel_rfl) (by decide) (AllReadyH.cons rfl (fun K hK=>?_) (AllReadyH.cons rfl (fun K hK=>?_) AllReadyH.nil))
   · rw [if_pos (by kernel_rfl)]
     go_simp
     refine (HPT.out V1 hv1).mono ?_
     rintro e V2 ⟨hpt,hb2⟩
     have hv2:Below W0.heap.size W0 V2:=hv1.trans (hb2.mono hv1.size)
     obtain ⟨p',rr,a',b',c',d',okk,rfl,hp1,hval⟩:∃ (p':Value) (rr a' b' c' d':Int) (okk:Bool),e=.returned (.tuple #[.agg #[p',.int .i64 rr,.int .i64 a',.int .i64 b',.int .i64 c',.int .i64 d'],.bool okk])∧p'.oneCell'=true∧okk=false:=by
      rcases hpt with ⟨_,_,h1,_⟩|⟨_,q,r',a',b',c',d',rfl⟩
      · cases h1
      · exact ⟨_,_,_,_,_,_,false,rfl,rfl,rfl⟩
     have HVAL:=Lib.hid hval
     clear hval
     have nn0:=cell_stays hv2 s0
     have nn1:=cell_stays hv2 s1
     have nn2:=cell_stays hv2 s2
     have nn3:=cell_stays hv2 s3
     have nn4:=cell_stays hv2 s4
     have nn5:=cell_stays hv2 s5
     refine hK.out _ _ ⟨nn0,nn1,nn2,nn3,nn4,nn5⟩ (fun hS=>?_)
     clear nn0 nn1 nn2 nn3 nn4 nn5
     refine tk 6 (.tuple #[.agg #[p',.int .i64 rr,.int .i64 a',.int .i64 b',.int .i64 c',.int .i64 d'],.bool okk]) hS ?_ ?_
     · rintro w' ⟨s0,s1,s2,s3,s4,s5⟩
       go_simp
     simp only [td]
     refine tk 7 (.agg #[p',.int .i64 rr,.int .i64 a',.int .i64 b',.int .i64 c',.int .i64 d']) hS ?_ ?_
     · rintro w' ⟨s0,s1,s2,s3,s4,s5⟩
       go_simp
     simp only [td]
     refine tk 8 (.bool okk) hS ?_ ?_
     · rintro w' ⟨s0,s1,s2,s3,s4,s5⟩
       go_simp
     simp only [td]
     refine wpAnyH_ready (rs:=[9]) (by kernel_rfl) (by decide) (AllReadyH.cons rfl (fun K hK=>?_) AllReadyH.nil)
     rw [if_pos (by kernel_rfl)]
     go_simp
     have hv3:Below W0.heap.size W0 (V2.alloc (.cells #[.pointer none,.int .i64 0,.int .i64 0,.int .i64 0,.int .i64 0,.int .i64 0] 120)):=hv2.alloc hv2.size _
     have hT3:=heap_alloc_new V2 (.cells #[.pointer none,.int .i64 0,.int .i64 0,.int .i64 0,.int .i64 0,.int .i64 0] 120)
     have nn0:=cell_stays hv3 s0
     have nn1:=cell_stays hv3 s1
     have nn2:=cell_stays hv3 s2
     have nn3:=cell_stays hv3 s3
     have nn4:=cell_stays hv3 s4
     have nn5:=cell_stays hv3 s5
     refine hK.out _ _ ⟨nn0,nn1,nn2,nn3,nn4,nn5⟩ (fun hS=>?_)
     clear nn0 nn1 nn2 nn3 nn4 nn5
     generalize V2.alloc (.cells #[.pointer none,.int .i64 0,.int .i64 0,.int .i64 0,.int .i64 0,.int .i64 0] 120)=V3 at *
     have hthere:V3.there (V2.heap.size) 0 6:=fun i hi=>by
      have h4:i=0∨i=1∨i=2∨i=3∨i=4∨i=5:=by omega
      obtain ⟨_,v0,v1,v2,v3,v4,v5⟩:=blk6 hT3
      rcases h4 with rfl|rfl|rfl|rfl|rfl|rfl
      · exact ⟨by rw [Nat.add_zero,v0];rfl,blk_frozen hT3 _⟩
      · exact ⟨by rw [Nat.zero_add,v1];rfl,blk_frozen hT3 _⟩
      · exact ⟨by rw [Nat.zero_add,v2];rfl,blk_frozen hT3 _⟩
      · exact ⟨by rw [Nat.zero_add,v3];rfl,blk_frozen hT3 _⟩
      · exact ⟨by rw [Nat.zero_add,v4];rfl,blk_frozen hT3 _⟩
      · exact ⟨by rw [Nat.zero_add,v5];rfl,blk_frozen hT3 _⟩
     refine wpAnyH_ready (rs:=[10]) (by kernel_rfl) (by decide) (AllReadyH.cons rfl (fun K hK=>?_) AllReadyH.nil)
     rw [if_pos (by kernel_rfl)]
     refine wp_store_mid 120 (.tmp 6) (.tmp 15) rfl (V2.heap.size) 0 #[p',.int .i64 rr,.int .i64 a',.int .i64 b',.int .i64 c',.int .i64 d'] rfl rfl hthere (by kernel_rfl) (Array.all_eq_true_iff_forall_mem.2 (by intro x hx;simp at hx;rcases hx with rfl|rfl|rfl|rfl|rfl|rfl<;>first|rfl|exact hp1)) ?_
     change K _ (set6 V3 (V2.heap.size) p' (.int .i64 rr) (.int .i64 a') (.int .i64 b') (.int .i64 c') (.int .i64 d'))
     have hTS:W0.heap.size≤V2.heap.size:=hv2.size
     have hks:∀ (bb o:Nat) (cc:Value),bb<W0.heap.size→W0.cell? ⟨bb,o,none⟩=some cc→(set6 V3 (V2.heap.size) p' (.int .i64 rr) (.int .i64 a') (.int .i64 b') (.int .i64 c') (.int .i64 d')).cell? ⟨bb,o,none⟩=some cc:=fun bb o cc hbb hcc=>keep6 (cell_stays hv3 hcc) (by show bb≠_;omega)
     refine hK.out _ _ ⟨hks _ _ _ (World.block_lt_of_cell? _ _ s0) s0,hks _ _ _ (World.block_lt_of_cell? _ _ s1) s1,hks _ _ _ (World.block_lt_of_cell? _ _ s2) s2,hks _ _ _ (World.block_lt_of_cell? _ _ s3) s3,hks _ _ _ (World.block_lt_of_cell? _ _ s4) s4,hks _ _ _ (World.block_lt_of_cell? _ _ s5) s5⟩ (fun hS=>?_)
     refine tk 11 (.bool okk) hS ?_ ?_
     · rintro w' ⟨s0,s1,s2,s3,s4,s5⟩
       go_simp
     simp only [td]
     refine wpAnyH_done (by kernel_rfl) ?_ _
     refine NoPanic.normal ?_
     try simp only [Exit.then]
     have HE1:=Lib.hid (show (set6 V3 (V2.heap.size) p' (.int .i64 rr) (.int .i64 a') (.int .i64 b') (.int .i64 c') (.int .i64 d')).heap[V2.heap.size]?=some (.cells #[p',.int .i64 rr,.int .i64 a',.int .i64 b',.int .i64 c',.int .i64 d'] 120 (0,0)) from blk_set6 hT3 _ _ _ _ _ _)
     have HE2:=Lib.hid (HB.out.trans ((show Below W0.heap.size W0 (set6 V3 (V2.heap.size) p' (.int .i64 rr) (.int .i64 a') (.int .i64 b') (.int .i64 c') (.int .i64 d')) from below_set6 hv3 hTS _ _ _ _ _ _).mono HB.out.size))
     clear hS hks hthere s0 s1 s2 s3 s4 s5 hTS hpt
     generalize set6 V3 (V2.heap.size) p' (.int .i64 rr) (.int .i64 a') (.int .i64 b') (.int .i64 c') (.int .i64 d')=W9 at *
     obtain ⟨_,q0,q1,q2,q3,q4,q5⟩:=blk6 HE1.out
     have hval:=HVAL.out
     subst hval
     go_wp2
     go_ret2
     exact ⟨rfl,HE2.out⟩
   · rw [if_pos (by kernel_rfl)]
     go_simp
     have hv2:Below W0.heap.size W0 (V1.alloc (.cells #[.pointer none,.int .i64 0,.int .i64 0,.int .i64 0,.int .i64 0,.int .i64 0] 120)):=hv1.alloc hv1.size _
     have hT2:=heap_alloc_new V1 (.cells #[.pointer none,.int .i64 0,.int .i64 0,.int .i64 0,.int .i64 0,.int .i64 0] 120)
     have nn0:=cell_stays hv2 s0
     have nn1:=cell_stays hv2 s1
     have nn2:=cell_stays hv2 s2
     have nn3:=cell_stays hv2 s3
     have nn4:=cell_stays hv2 s4
     have nn5:=cell_stays hv2 s5
     refine hK.out _ _ ⟨nn0,nn1,nn2,nn3,nn4,nn5⟩ (fun hS=>?_)
     clear nn0 nn1 nn2 nn3 nn4 nn5
     generalize V1.alloc (.cells #[.pointer none,.int .i64 0,.int .i64 0,.int .i64 0,.int .i64 0,.int .i64 0] 120)=V2 at *
     refine wpAnyH_ready (rs:=[5]) (by kernel_rfl) (by decide) (AllReadyH.cons rfl (fun K hK=>?_) AllReadyH.nil)
     rw [if_pos (by kernel_rfl)]
     go_simp
     refine (HPT.out V2 hv2).mono ?_
     rintro e V3 ⟨hpt,hb3⟩
     have hv3:Below W0.heap.size W0 V3:=hv2.trans (hb3.mono hv2.size)
     obtain ⟨p',rr,a',b',c',d',okk,rfl,hp1,hval⟩:∃ (p':Value) (rr a' b' c' d':Int) (okk:Bool),e=.returned (.tuple #[.agg #[p',.int .i64 rr,.int .i64 a',.int .i64 b',.int .i64 c',.int .i64 d'],.bool okk])∧p'.oneCell'=true∧okk=false:=by
      rcases hpt with ⟨_,_,h1,_⟩|⟨_,q,r',a',b',c',d',rfl⟩
      · cases h1
      · exact ⟨_,_,_,_,_,_,false,rfl,rfl,rfl⟩
     have HVAL:=Lib.hid hval
     clear hval
     have nn0:=cell_stays hv3 s0
     have nn1:=cell_stays hv3 s1
     have nn2:=cell_stays hv3 s2
     have nn3:=cell_stays hv3 s3
     have nn4:=cell_stays hv3 s4
     have nn5:=cell_stays hv3 s5
     refine hK.out _ _ ⟨nn0,nn1,nn2,nn3,nn4,nn5⟩ (fun hS=>?_)
     clear nn0 nn1 nn2 nn3 nn4 nn5
     refine tk 6 (.tuple #[.agg #[p',.int .i64 rr,.int .i64 a',.int .i64 b',.int .i64 c',.int .i64 d'],.bool okk]) hS ?_ ?_
     · rintro w' ⟨s0,s1,s2,s3,s4,s5⟩
       go_simp
     simp only [td]
     refine tk 7 (.agg #[p',.int .i64 rr,.int .i64 a',.int .i64 b',.int .i64 c',.int .i64 d']) hS ?_ ?_
     · rintro w' ⟨s0,s1,s2,s3,s4,s5⟩
       go_simp
     simp only [td]
     refine tk 8 (.bool okk) hS ?_ ?_
     · rintro w' ⟨s0,s1,s2,s3,s4,s5⟩
       go_simp
     simp only [td]
     have hT3:=blk_below hT2 hb3 (blk_lt hT2)
     have hthere:V3.there (V1.heap.size) 0 6:=fun i hi=>by
      have h4:i=0∨i=1∨i=2∨i=3∨i=4∨i=5:=by omega
      obtain ⟨_,v0,v1,v2,v3,v4,v5⟩:=blk6 hT3
      rcases h4 with rfl|rfl|rfl|rfl|rfl|rfl
      · exact ⟨by rw [Nat.add_zero,v0];rfl,blk_frozen hT3 _⟩
      · exact ⟨by rw [Nat.zero_add,v1];rfl,blk_frozen hT3 _⟩
      · exact ⟨by rw [Nat.zero_add,v2];rfl,blk_frozen hT3 _⟩
      · exact ⟨by rw [Nat.zero_add,v3];rfl,blk_frozen hT3 _⟩
      · exact ⟨by rw [Nat.zero_add,v4];rfl,blk_frozen hT3 _⟩
      · exact ⟨by rw [Nat.zero_add,v5];rfl,blk_frozen hT3 _⟩
     refine wpAnyH_ready (rs:=[10]) (by kernel_rfl) (by decide) (AllReadyH.cons rfl (fun K hK=>?_) AllReadyH.nil)
     rw [if_pos (by kernel_rfl)]
     refine wp_store_mid 120 (.tmp 6) (.tmp 15) rfl (V1.heap.size) 0 #[p',.int .i64 rr,.int .i64 a',.int .i64 b',.int .i64 c',.int .i64 d'] rfl rfl hthere (by kernel_rfl) (Array.all_eq_true_iff_forall_mem.2 (by intro x hx;simp at hx;rcases hx with rfl|rfl|rfl|rfl|rfl|rfl<;>first|rfl|exact hp1)) ?_
     change K _ (set6 V3 (V1.heap.size) p' (.int .i64 rr) (.int .i64 a') (.int .i64 b') (.int .i64 c') (.int .i64 d'))
     have hTS:W0.heap.size≤V1.heap.size:=hv1.size
     have hks:∀ (bb o:Nat) (cc:Value),bb<W0.heap.size→W0.cell? ⟨bb,o,none⟩=some cc→(set6 V3 (V1.heap.size) p' (.int .i64 rr) (.int .i64 a') (.int .i64 b') (.int .i64 c') (.int .i64 d')).cell? ⟨bb,o,none⟩=some cc:=fun bb o cc hbb hcc=>keep6 (cell_stays hv3 hcc) (by show bb≠_;omega)
     refine hK.out _ _ ⟨hks _ _ _ (World.block_lt_of_cell? _ _ s0) s0,hks _ _ _ (World.block_lt_of_cell? _ _ s1) s1,hks _ _ _ (World.block_lt_of_cell? _ _ s2) s2,hks _ _ _ (World.block_lt_of_cell? _ _ s3) s3,hks _ _ _ (World.block_lt_of_cell? _ _ s4) s4,hks _ _ _ (World.block_lt_of_cell? _ _ s5) s5⟩ (fun hS=>?_)
     refine tk 11 (.bool okk) hS ?_ ?_
     · rintro w' ⟨s0,s1,s2,s3,s4,s5⟩
       go_simp
     simp only [td]
     refine wpAnyH_done (by kernel_rfl) ?_ _
     refine NoPanic.normal ?_
     try simp only [Exit.then]
     have HE1:=Lib.hid (show (set6 V3 (V1.heap.size) p' (.int .i64 rr) (.int .i64 a') (.int .i64 b') (.int .i64 c') (.int .i64 d')).heap[V1.heap.size]?=some (.cells #[p',.int .i64 rr,.int .i64 a',.int .i64 b',.int .i64 c',.int .i64 d'] 120 (0,0)) from blk_set6 hT3 _ _ _ _ _ _)
     have HE2:=Lib.hid (HB.out.trans ((show Below W0.heap.size W0 (set6 V3 (V1.heap.size) p' (.int .i64 rr) (.int .i64 a') (.int .i64 b') (.int .i64 c') (.int .i64 d')) from below_set6 hv3 hTS _ _ _ _ _ _).mono HB.out.size))
     clear hS hks hthere s0 s1 s2 s3 s4 s5 hTS hpt
     generalize set6 V3 (V1.heap.size) p' (.int .i64 rr) (.int .i64 a') (.int .i64 b') (.int .i64 c') (.int .i64 d')=W9 at *
     obtain ⟨_,q0,q1,q2,q3,q4,q5⟩:=blk6 HE1.out
     have hval:=HVAL.out
     subst hval
     go_wp2
     go_ret2
     exact ⟨rfl,HE2.out⟩
 · rw [if_pos (by kernel_rfl)]
   go_simp
   have hv1:Below W0.heap.size W0 ((W0.alloc (.cells #[.pointer none,.int .i64 0,.int .i64 0,.int .i64 0,.int .i64 0,.int .i64 0] 120)).drew):=((Below.refl _ W0).alloc (Nat.le_refl _) _).drew
   have hT1:((W0.alloc (.cells #[.pointer none,.int .i64 0,.int .i64 0,.int .i64 0,.int .i64 0,.int .i64 0] 120)).drew).heap[W0.heap.size]?=some (.cells #[.pointer none,.int .i64 0,.int .i64 0,.int .i64 0,.int .i64 0,.int .i64 0] 120 (0,0)):=heap_alloc_new W0 _
   have nn0:=cell_stays hv1 s0
   have nn1:=cell_stays hv1 s1
   have nn2:=cell_stays hv1 s2
   have nn3:=cell_stays hv1 s3
   have nn4:=cell_stays hv1 s4
   have nn5:=cell_stays hv1 s5
   refine hK.out _ _ ⟨nn0,nn1,nn2,nn3,nn4,nn5⟩ (fun hS=>?_)
   clear nn0 nn1 nn2 nn3 nn4 nn5
   generalize (W0.alloc (.cells #[.pointer none,.int .i64 0,.int .i64 0,.int .i64 0,.int .i64 0,.int .i64 0] 120)).drew=V1 at *
   refine wpAnyH_ready (rs:=[4]) (by kernel_rfl) (by decide) (AllReadyH.cons rfl (fun K hK=>?_) AllReadyH.nil)
   rw [if_pos (by kernel_rfl)]
   go_simp
   refine (HKK.out V1 hv1).mono ?_
   rintro e V2 ⟨rfl,hb2⟩
   have hv2:Below W0.heap.size W0 V2:=hv1.trans (hb2.mono hv1.size)
   have nn0:=cell_stays hv2 s0
   have nn1:=cell_stays hv2 s1
   have nn2:=cell_stays hv2 s2
   have nn3:=cell_stays hv2 s3
   have nn4:=cell_stays hv2 s4
   have nn5:=cell_stays hv2 s5
   refine hK.out _ _ ⟨nn0,nn1,nn2,nn3,nn4,nn5⟩ (fun hS=>?_)
   clear nn0 nn1 nn2 nn3 nn4 nn5
   refine wpAnyH_ready (rs:=[5]) (by kernel_rfl) (by decide) (AllReadyH.cons rfl (fun K hK=>?_) AllReadyH.nil)
   rw [if_pos (by kernel_rfl)]
   go_simp
   refine (HPT.out V2 hv2).mono ?_
   rintro e V3 ⟨hpt,hb3⟩
   have hv3:Below W0.heap.size W0 V3:=hv2.trans (hb3.mono hv2.size)
   obtain ⟨p',rr,a',b',c',d',okk,rfl,hp1,hval⟩:∃ (p':Value) (rr a' b' c' d':Int) (okk:Bool),e=.returned (.tuple #[.agg #[p',.int .i64 rr,.int .i64 a',.int .i64 b',.int .i64 c',.int .i64 d'],.bool okk])∧p'.oneCell'=true∧okk=false:=by
    rcases hpt with ⟨_,_,h1,_⟩|⟨_,q,r',a',b',c',d',rfl⟩
    · cases h1
    · exact ⟨_,_,_,_,_,_,false,rfl,rfl,rfl⟩
   have HVAL:=Lib.hid hval
   clear hval
   have nn0:=cell_stays hv3 s0
   have nn1:=cell_stays hv3 s1
   have nn2:=cell_stays hv3 s2
   have nn3:=cell_stays hv3 s3
   have nn4:=cell_stays hv3 s4
   have nn5:=cell_stays hv3 s5
   refine hK.out _ _ ⟨nn0,nn1,nn2,nn3,nn4,nn5⟩ (fun hS=>?_)
   clear nn0 nn1 nn2 nn3 nn4 nn5
   refine tk 6 (.tuple #[.agg #[p',.int .i64 rr,.int .i64 a',.int .i64 b',.int .i64 c',.int .i64 d'],.bool okk]) hS ?_ ?_
   · rintro w' ⟨s0,s1,s2,s3,s4,s5⟩
     go_simp
   simp only [td]
   refine tk 7 (.agg #[p',.int .i64 rr,.int .i64 a',.int .i64 b',.int .i64 c',.int .i64 d']) hS ?_ ?_
   · rintro w' ⟨s0,s1,s2,s3,s4,s5⟩
     go_simp
   simp only [td]
   refine tk 8 (.bool okk) hS ?_ ?_
   · rintro w' ⟨s0,s1,s2,s3,s4,s5⟩
     go_simp
   simp only [td]
   have hT3:=blk_below (blk_below hT1 hb2 (blk_lt hT1)) hb3 (blk_lt (blk_below hT1 hb2 (blk_lt hT1)))
   have hthere:V3.there (W0.heap.size) 0 6:=fun i hi=>by
    have h4:i=0∨i=1∨i=2∨i=3∨i=4∨i=5:=by omega
    obtain ⟨_,v0,v1,v2,v3,v4,v5⟩:=blk6 hT3
    rcases h4 with rfl|rfl|rfl|rfl|rfl|rfl
    · exact ⟨by rw [Nat.add_zero,v0];rfl,blk_frozen hT3 _⟩
    · exact ⟨by rw [Nat.zero_add,v1];rfl,blk_frozen hT3 _⟩
    · exact ⟨by rw [Nat.zero_add,v2];rfl,blk_frozen hT3 _⟩
    · exact ⟨by rw [Nat.zero_add,v3];rfl,blk_frozen hT3 _⟩
    · exact ⟨by rw [Nat.zero_add,v4];rfl,blk_frozen hT3 _⟩
    · exact ⟨by rw [Nat.zero_add,v5];rfl,blk_frozen hT3 _⟩
   refine wpAnyH_ready (rs:=[10]) (by kernel_rfl) (by decide) (AllReadyH.cons rfl (fun K hK=>?_) AllReadyH.nil)
   rw [if_pos (by kernel_rfl)]
   refine wp_store_mid 120 (.tmp 6) (.tmp 15) rfl (W0.heap.size) 0 #[p',.int .i64 rr,.int .i64 a',.int .i64 b',.int .i64 c',.int .i64 d'] rfl rfl hthere (by kernel_rfl) (Array.all_eq_true_iff_forall_mem.2 (by intro x hx;simp at hx;rcases hx with rfl|rfl|rfl|rfl|rfl|rfl<;>first|rfl|exact hp1)) ?_
   change K _ (set6 V3 (W0.heap.size) p' (.int .i64 rr) (.int .i64 a') (.int .i64 b') (.int .i64 c') (.int .i64 d'))
   have hTS:W0.heap.size≤W0.heap.size:=Nat.le_refl _
   have hks:∀ (bb o:Nat) (cc:Value),bb<W0.heap.size→W0.cell? ⟨bb,o,none⟩=some cc→(set6 V3 (W0.heap.size) p' (.int .i64 rr) (.int .i64 a') (.int .i64 b') (.int .i64 c') (.int .i64 d')).cell? ⟨bb,o,none⟩=some cc:=fun bb o cc hbb hcc=>keep6 (cell_stays hv3 hcc) (by show bb≠_;omega)
   refine hK.out _ _ ⟨hks _ _ _ (World.block_lt_of_cell? _ _ s0) s0,hks _ _ _ (World.block_lt_of_cell? _ _ s1) s1,hks _ _ _ (World.block_lt_of_cell? _ _ s2) s2,hks _ _ _ (World.block_lt_of_cell? _ _ s3) s3,hks _ _ _ (World.block_lt_of_cell? _ _ s4) s4,hks _ _ _ (World.block_lt_of_cell? _ _ s5) s5⟩ (fun hS=>?_)
   refine tk 11 (.bool okk) hS ?_ ?_
   · rintro w' ⟨s0,s1,s2,s3,s4,s5⟩
     go_simp
   simp only [td]
   refine wpAnyH_done (by kernel_rfl) ?_ _
   refine NoPanic.normal ?_
   try simp only [Exit.then]
   have HE1:=Lib.hid (show (set6 V3 (W0.heap.size) p' (.int .i64 rr) (.int .i64 a') (.int .i64 b') (.int .i64 c') (.int .i64 d')).heap[W0.heap.size]?=some (.cells #[p',.int .i64 rr,.int .i64 a',.int .i64 b',.int .i64 c',.int .i64 d'] 120 (0,0)) from blk_set6 hT3 _ _ _ _ _ _)
   have HE2:=Lib.hid (HB.out.trans ((show Below W0.heap.size W0 (set6 V3 (W0.heap.size) p' (.int .i64 rr) (.int .i64 a') (.int .i64 b') (.int .i64 c') (.int .i64 d')) from below_set6 hv3 hTS _ _ _ _ _ _).mono HB.out.size))
   clear hS hks hthere s0 s1 s2 s3 s4 s5 hTS hpt
   generalize set6 V3 (W0.heap.size) p' (.int .i64 rr) (.int .i64 a') (.int .i64 b') (.int .i64 c') (.int .i64 d')=W9 at *
   obtain ⟨_,q0,q1,q2,q3,q4,q5⟩:=blk6 HE1.out
   have hval:=HVAL.out
   subst hval
   go_wp2
   go_ret2
   exact ⟨rfl,HE2.out⟩
set_option maxRecDepth 100000 in
set_option maxHeartbeats 8000000 in
theorem flSub_ok (w:World){base m:Nat}{bp:Option Addr}{bc:Nat}{sv ev:Value}{zs:List Int}{fs:List (List CFld × Value)}{ns:List Nat}(h:IsMsg base w m bp bc sv ev zs fs ns)(lk:Nat)(lr ll la ln ls:Int)(j:Int)(kk kd:Nat)(kr kl ka:Int)(to:Int)(t:TabZ)(hj:jumpZ zs ka=some to)(ht:tabZ zs to=some t)
  (hK:∀ W,Below w.heap.size w W→Calls Tryd.prog 146 #[.agg #[.pointer (some ⟨m,0,none⟩),.int .u8 lk,.int .i64 lr,.int .i64 ll,.int .i64 la,.int .i64 ln,.int .i64 ls],.int .i64 j,.int .i64 4] W fun e w'=>e=.returned (kidV kk kr kl ka kd true)∧Below W.heap.size W w') :
  Calls Tryd.prog 183 #[.agg #[.pointer (some ⟨m,0,none⟩),.int .u8 lk,.int .i64 lr,.int .i64 ll,.int .i64 la,.int .i64 ln,.int .i64 ls],.int .i64 j] w fun e w'=>e=.returned (.iface 120 (strV m kr t to))∧Below w.heap.size w w':=by
 have hb:=(Below.refl w.heap.size w).alloc (Nat.le_refl _) (.cells #[.pointer (some ⟨m,0,none⟩),.int .u8 lk,.int .i64 lr,.int .i64 ll,.int .i64 la,.int .i64 ln,.int .i64 ls] 238)
 have HB:=Lib.hid hb
 have HX:=Lib.hid (heap_alloc_new w (.cells #[.pointer (some ⟨m,0,none⟩),.int .u8 lk,.int .i64 lr,.int .i64 ll,.int .i64 la,.int .i64 ln,.int .i64 ls] 238))
 have HKK:=Lib.hid (fun W (hW:Below (w.alloc (.cells #[.pointer (some ⟨m,0,none⟩),.int .u8 lk,.int .i64 lr,.int .i64 ll,.int .i64 la,.int .i64 ln,.int .i64 ls] 238)).heap.size (w.alloc (.cells #[.pointer (some ⟨m,0,none⟩),.int .u8 lk,.int .i64 lr,.int .i64 ll,.int .i64 la,.int .i64 ln,.int .i64 ls] 238)) W)=>hK W (hb.trans (hW.mono hb.size)))
 have HPT:=Lib.hid (fun W (hW:Below (w.alloc (.cells #[.pointer (some ⟨m,0,none⟩),.int .u8 lk,.int .i64 lr,.int .i64 ll,.int .i64 la,.int .i64 ln,.int .i64 ls] 238)).heap.size (w.alloc (.cells #[.pointer (some ⟨m,0,none⟩),.int .u8 lk,.int .i64 lr,.int .i64 ll,.int .i64 la,.int .i64 ln,.int .i64 ls] 238)) W)=>fpointed_any W ((h.below hb).below hW) kk kr kl ka kd true)
 unfold kidV at HKK HPT
 have HJT:=Lib.hid (And.intro hj ht)
 clear hj ht
 clear hb hK h
 go_enter Tryd.func183,Tryd.ntmps183
 go_upto_region 1 with (fail)
 generalize w.alloc (.cells #[.pointer (some ⟨m,0,none⟩),.int .u8 lk,.int .i64 lr,.int .i64 ll,.int .i64 la,.int .i64 ln,.int .i64 ls] 238)=W0 at *
 obtain ⟨_,s0,s1,s2,s3,s4,s5,s6⟩:=blk7 HX.out
 refine wp_region_noPanic ?_
 refine wp_region_held_drew (S:=(fun w'=>w'.cell? ⟨w.heap.size,0,none⟩=some (.pointer (some ⟨m,0,none⟩))∧w'.cell? ⟨w.heap.size,1,none⟩=some (.int .u8 lk)∧w'.cell? ⟨w.heap.size,2,none⟩=some (.int .i64 lr)∧w'.cell? ⟨w.heap.size,3,none⟩=some (.int .i64 ll)∧w'.cell? ⟨w.heap.size,4,none⟩=some (.int .i64 la)∧w'.cell? ⟨w.heap.size,5,none⟩=some (.int .i64 ln)∧w'.cell? ⟨w.heap.size,6,none⟩=some (.int .i64 ls))) (by kernel_rfl) ⟨s0,s1,s2,s3,s4,s5,s6⟩ ?_
 intro hS
 refine tk 0 (.pointer (some ⟨w.heap.size,0,none⟩)) hS ?_ ?_
 · rintro w' ⟨s0,s1,s2,s3,s4,s5,s6⟩
   go_simp
 simp only [td]
 refine tk 1 (.pointer (some ⟨m,0,none⟩)) hS ?_ ?_
 · rintro w' ⟨s0,s1,s2,s3,s4,s5,s6⟩
   go_simp
 simp only [td]
 refine tk 2 (.agg #[.pointer (some ⟨m,0,none⟩),.int .u8 lk,.int .i64 lr,.int .i64 ll,.int .i64 la,.int .i64 ln,.int .i64 ls]) hS ?_ ?_
 · rintro w' ⟨s0,s1,s2,s3,s4,s5,s6⟩
   go_simp
 simp only [td]
 refine tk 3 (.int .i64 j) hS ?_ ?_
 · rintro w' ⟨s0,s1,s2,s3,s4,s5,s6⟩
   go_simp
 simp only [td]
 refine wpAnyH_ready (rs:=[4,9]) (by kernel_rfl) (by decide) (AllReadyH.cons rfl (fun K hK=>?_) (AllReadyH.cons rfl (fun K hK=>?_) AllReadyH.nil))
 · rw [if_pos (by kernel_rfl)]
   go_simp
   refine (HKK.out W0.drew ((Below.refl _ W0).drew)).mono ?_
   rintro e V1 ⟨rfl,hb1⟩
   have hv1:Below W0.heap.size W0 V1:=(Below.refl _ W0).drew.trans hb1
   have nn0:=cell_stays hv1 s0
   have nn1:=cell_stays hv1 s1
   have nn2:=cell_stays hv1 s2
   have nn3:=cell_stays hv1 s3
   have nn4:=cell_stays hv1 s4
   have nn5:=cell_stays hv1 s5
   have nn6:=cell_stays hv1 s6
   refine hK.out _ _ ⟨nn0,nn1,nn2,nn3,nn4,nn5,nn6⟩ (fun hS=>?_)
   clear nn0 nn1 nn2 nn3 nn4 nn5 nn6
   refine wpAnyH_ready (rs:=[5,9]) (by kernel_rfl) (by decide) (AllReadyH.cons rfl (fun K hK=>?_) (AllReadyH.cons rfl (fun K hK=>?_) AllReadyH.nil))
   · rw [if_pos (by kernel_rfl)]
     go_simp
     refine (HPT.out V1 hv1).mono ?_
     rintro e V2 ⟨hpt,hb2⟩
     have hv2:Below W0.heap.size W0 V2:=hv1.trans (hb2.mono hv1.size)
     obtain ⟨p',rr,a',b',c',d',okk,rfl,hp1,hval⟩:∃ (p':Value) (rr a' b' c' d':Int) (okk:Bool),e=.returned (.tuple #[.agg #[p',.int .i64 rr,.int .i64 a',.int .i64 b',.int .i64 c',.int .i64 d'],.bool okk])∧p'.oneCell'=true∧(okk=true∧Value.agg #[p',.int .i64 rr,.int .i64 a',.int .i64 b',.int .i64 c',.int .i64 d']=strV m kr t to):=by
      rcases hpt with ⟨to',t',_,hj,ht,rfl⟩|⟨hn,_⟩
      · have h1:=HJT.out.1
        rw [hj] at h1
        injection h1 with h1
        subst h1
        have h2:=HJT.out.2
        rw [ht] at h2
        injection h2 with h2
        subst h2
        exact ⟨_,_,_,_,_,_,true,rfl,rfl,rfl,rfl⟩
      · have h1:=hn rfl to HJT.out.1
        rw [HJT.out.2] at h1
        cases h1
     have HVAL:=Lib.hid hval
     clear hval
     have nn0:=cell_stays hv2 s0
     have nn1:=cell_stays hv2 s1
     have nn2:=cell_stays hv2 s2
     have nn3:=cell_stays hv2 s3
     have nn4:=cell_stays hv2 s4
     have nn5:=cell_stays hv2 s5
     have nn6:=cell_stays hv2 s6
     refine hK.out _ _ ⟨nn0,nn1,nn2,nn3,nn4,nn5,nn6⟩ (fun hS=>?_)
     clear nn0 nn1 nn2 nn3 nn4 nn5 nn6
     refine tk 6 (.tuple #[.agg #[p',.int .i64 rr,.int .i64 a',.int .i64 b',.int .i64 c',.int .i64 d'],.bool okk]) hS ?_ ?_
     · rintro w' ⟨s0,s1,s2,s3,s4,s5,s6⟩
       go_simp
     simp only [td]
     refine tk 7 (.agg #[p',.int .i64 rr,.int .i64 a',.int .i64 b',.int .i64 c',.int .i64 d']) hS ?_ ?_
     · rintro w' ⟨s0,s1,s2,s3,s4,s5,s6⟩
       go_simp
     simp only [td]
     refine tk 8 (.bool okk) hS ?_ ?_
     · rintro w' ⟨s0,s1,s2,s3,s4,s5,s6⟩
       go_simp
     simp only [td]
     refine wpAnyH_ready (rs:=[9]) (by kernel_rfl) (by decide) (AllReadyH.cons rfl (fun K hK=>?_) AllReadyH.nil)
     rw [if_pos (by kernel_rfl)]
     go_simp
     have hv3:Below W0.heap.size W0 (V2.alloc (.cells #[.pointer none,.int .i64 0,.int .i64 0,.int .i64 0,.int .i64 0,.int .i64 0] 120)):=hv2.alloc hv2.size _
     have hT3:=heap_alloc_new V2 (.cells #[.pointer none,.int .i64 0,.int .i64 0,.int .i64 0,.int .i64 0,.int .i64 0] 120)
     have nn0:=cell_stays hv3 s0
     have nn1:=cell_stays hv3 s1
     have nn2:=cell_stays hv3 s2
     have nn3:=cell_stays hv3 s3
     have nn4:=cell_stays hv3 s4
     have nn5:=cell_stays hv3 s5
     have nn6:=cell_stays hv3 s6
     refine hK.out _ _ ⟨nn0,nn1,nn2,nn3,nn4,nn5,nn6⟩ (fun hS=>?_)
     clear nn0 nn1 nn2 nn3 nn4 nn5 nn6
     generalize V2.alloc (.cells #[.pointer none,.int .i64 0,.int .i64 0,.int .i64 0,.int .i64 0,.int .i64 0] 120)=V3 at *
     have hthere:V3.there (V2.heap.size) 0 6:=fun i hi=>by
      have h4:i=0∨i=1∨i=2∨i=3∨i=4∨i=5:=by omega
      obtain ⟨_,v0,v1,v2,v3,v4,v5⟩:=blk6 hT3
      rcases h4 with rfl|rfl|rfl|rfl|rfl|rfl
      · exact ⟨by rw [Nat.add_zero,v0];rfl,blk_frozen hT3 _⟩
      · exact ⟨by rw [Nat.zero_add,v1];rfl,blk_frozen hT3 _⟩
      · exact ⟨by rw [Nat.zero_add,v2];rfl,blk_frozen hT3 _⟩
      · exact ⟨by rw [Nat.zero_add,v3];rfl,blk_frozen hT3 _⟩
      · exact ⟨by rw [Nat.zero_add,v4];rfl,blk_frozen hT3 _⟩
      · exact ⟨by rw [Nat.zero_add,v5];rfl,blk_frozen hT3 _⟩
     refine wpAnyH_ready (rs:=[10]) (by kernel_rfl) (by decide) (AllReadyH.cons rfl (fun K hK=>?_) AllReadyH.nil)
     rw [if_pos (by kernel_rfl)]
     refine wp_store_mid 120 (.tmp 5) (.tmp 14) rfl (V2.heap.size) 0 #[p',.int .i64 rr,.int .i64 a',.int .i64 b',.int .i64 c',.int .i64 d'] rfl rfl hthere (by kernel_rfl) (Array.all_eq_true_iff_forall_mem.2 (by intro x hx;simp at hx;rcases hx with rfl|rfl|rfl|rfl|rfl|rfl<;>first|rfl|exact hp1)) ?_
     change K _ (set6 V3 (V2.heap.size) p' (.int .i64 rr) (.int .i64 a') (.int .i64 b') (.int .i64 c') (.int .i64 d'))
     have hTS:W0.heap.size≤V2.heap.size:=hv2.size
     have hks:∀ (bb o:Nat) (cc:Value),bb<W0.heap.size→W0.cell? ⟨bb,o,none⟩=some cc→(set6 V3 (V2.heap.size) p' (.int .i64 rr) (.int .i64 a') (.int .i64 b') (.int .i64 c') (.int .i64 d')).cell? ⟨bb,o,none⟩=some cc:=fun bb o cc hbb hcc=>keep6 (cell_stays hv3 hcc) (by show bb≠_;omega)
     refine hK.out _ _ ⟨hks _ _ _ (World.block_lt_of_cell? _ _ s0) s0,hks _ _ _ (World.block_lt_of_cell? _ _ s1) s1,hks _ _ _ (World.block_lt_of_cell? _ _ s2) s2,hks _ _ _ (World.block_lt_of_cell? _ _ s3) s3,hks _ _ _ (World.block_lt_of_cell? _ _ s4) s4,hks _ _ _ (World.block_lt_of_cell? _ _ s5) s5,hks _ _ _ (World.block_lt_of_cell? _ _ s6) s6⟩ (fun hS=>?_)
     refine tk 11 (.bool okk) hS ?_ ?_
     · rintro w' ⟨s0,s1,s2,s3,s4,s5,s6⟩
       go_simp
     simp only [td]
     refine wpAnyH_done (by kernel_rfl) ?_ _
     refine NoPanic.normal ?_
     try simp only [Exit.then]
     have HE1:=Lib.hid (show (set6 V3 (V2.heap.size) p' (.int .i64 rr) (.int .i64 a') (.int .i64 b') (.int .i64 c') (.int .i64 d')).heap[V2.heap.size]?=some (.cells #[p',.int .i64 rr,.int .i64 a',.int .i64 b',.int .i64 c',.int .i64 d'] 120 (0,0)) from blk_set6 hT3 _ _ _ _ _ _)
     have HE2:=Lib.hid (HB.out.trans ((show Below W0.heap.size W0 (set6 V3 (V2.heap.size) p' (.int .i64 rr) (.int .i64 a') (.int .i64 b') (.int .i64 c') (.int .i64 d')) from below_set6 hv3 hTS _ _ _ _ _ _).mono HB.out.size))
     clear hS hks hthere s0 s1 s2 s3 s4 s5 s6 hTS hpt
     generalize set6 V3 (V2.heap.size) p' (.int .i64 rr) (.int .i64 a') (.int .i64 b') (.int .i64 c') (.int .i64 d')=W9 at *
     obtain ⟨_,q0,q1,q2,q3,q4,q5⟩:=blk6 HE1.out
     obtain ⟨rfl,hval⟩:=HVAL.out
     have HV:=Lib.hid hval
     clear hval
     go_wp2
     go_ret
     exact ⟨by rw [←HV.out];rfl,HE2.out⟩
   · rw [if_pos (by kernel_rfl)]
     go_simp
     have hv2:Below W0.heap.size W0 (V1.alloc (.cells #[.pointer none,.int .i64 0,.int .i64 0,.int .i64 0,.int .i64 0,.int .i64 0] 120)):=hv1.alloc hv1.size _
     have hT2:=heap_alloc_new V1 (.cells #[.pointer none,.int .i64 0,.int .i64 0,.int .i64 0,.int .i64 0,.int .i64 0] 120)
     have nn0:=cell_stays hv2 s0
     have nn1:=cell_stays hv2 s1
     have nn2:=cell_stays hv2 s2
     have nn3:=cell_stays hv2 s3
     have nn4:=cell_stays hv2 s4
     have nn5:=cell_stays hv2 s5
     have nn6:=cell_stays hv2 s6
     refine hK.out _ _ ⟨nn0,nn1,nn2,nn3,nn4,nn5,nn6⟩ (fun hS=>?_)
     clear nn0 nn1 nn2 nn3 nn4 nn5 nn6
     generalize V1.alloc (.cells #[.pointer none,.int .i64 0,.int .i64 0,.int .i64 0,.int .i64 0,.int .i64 0] 120)=V2 at *
     refine wpAnyH_ready (rs:=[5]) (by kernel_rfl) (by decide) (AllReadyH.cons rfl (fun K hK=>?_) AllReadyH.nil)
     rw [if_pos (by kernel_rfl)]
     go_simp
     refine (HPT.out V2 hv2).mono ?_
     rintro e V3 ⟨hpt,hb3⟩
     have hv3:Below W0.heap.size W0 V3:=hv2.trans (hb3.mono hv2.size)
     obtain ⟨p',rr,a',b',c',d',okk,rfl,hp1,hval⟩:∃ (p':Value) (rr a' b' c' d':Int) (okk:Bool),e=.returned (.tuple #[.agg #[p',.int .i64 rr,.int .i64 a',.int .i64 b',.int .i64 c',.int .i64 d'],.bool okk])∧p'.oneCell'=true∧(okk=true∧Value.agg #[p',.int .i64 rr,.int .i64 a',.int .i64 b',.int .i64 c',.int .i64 d']=strV m kr t to):=by
      rcases hpt with ⟨to',t',_,hj,ht,rfl⟩|⟨hn,_⟩
      · have h1:=HJT.out.1
        rw [hj] at h1
        injection h1 with h1
        subst h1
        have h2:=HJT.out.2
        rw [ht] at h2
        injection h2 with h2
        subst h2
        exact ⟨_,_,_,_,_,_,true,rfl,rfl,rfl,rfl⟩
      · have h1:=hn rfl to HJT.out.1
        rw [HJT.out.2] at h1
        cases h1
     have HVAL:=Lib.hid hval
     clear hval
     have nn0:=cell_stays hv3 s0
     have nn1:=cell_stays hv3 s1
     have nn2:=cell_stays hv3 s2
     have nn3:=cell_stays hv3 s3
     have nn4:=cell_stays hv3 s4
     have nn5:=cell_stays hv3 s5
     have nn6:=cell_stays hv3 s6
     refine hK.out _ _ ⟨nn0,nn1,nn2,nn3,nn4,nn5,nn6⟩ (fun hS=>?_)
     clear nn0 nn1 nn2 nn3 nn4 nn5 nn6
     refine tk 6 (.tuple #[.agg #[p',.int .i64 rr,.int .i64 a',.int .i64 b',.int .i64 c',.int .i64 d'],.bool okk]) hS ?_ ?_
     · rintro w' ⟨s0,s1,s2,s3,s4,s5,s6⟩
       go_simp
     simp only [td]
     refine tk 7 (.agg #[p',.int .i64 rr,.int .i64 a',.int .i64 b',.int .i64 c',.int .i64 d']) hS ?_ ?_
     · rintro w' ⟨s0,s1,s2,s3,s4,s5,s6⟩
       go_simp
     simp only [td]
     refine tk 8 (.bool okk) hS ?_ ?_
     · rintro w' ⟨s0,s1,s2,s3,s4,s5,s6⟩
       go_simp
     simp only [td]
     have hT3:=blk_below hT2 hb3 (blk_lt hT2)
     have hthere:V3.there (V1.heap.size) 0 6:=fun i hi=>by
      have h4:i=0∨i=1∨i=2∨i=3∨i=4∨i=5:=by omega
      obtain ⟨_,v0,v1,v2,v3,v4,v5⟩:=blk6 hT3
      rcases h4 with rfl|rfl|rfl|rfl|rfl|rfl
      · exact ⟨by rw [Nat.add_zero,v0];rfl,blk_frozen hT3 _⟩
      · exact ⟨by rw [Nat.zero_add,v1];rfl,blk_frozen hT3 _⟩
      · exact ⟨by rw [Nat.zero_add,v2];rfl,blk_frozen hT3 _⟩
      · exact ⟨by rw [Nat.zero_add,v3];rfl,blk_frozen hT3 _⟩
      · exact ⟨by rw [Nat.zero_add,v4];rfl,blk_frozen hT3 _⟩
      · exact ⟨by rw [Nat.zero_add,v5];rfl,blk_frozen hT3 _⟩
     refine wpAnyH_ready (rs:=[10]) (by kernel_rfl) (by decide) (AllReadyH.cons rfl (fun K hK=>?_) AllReadyH.nil)
     rw [if_pos (by kernel_rfl)]
     refine wp_store_mid 120 (.tmp 5) (.tmp 14) rfl (V1.heap.size) 0 #[p',.int .i64 rr,.int .i64 a',.int .i64 b',.int .i64 c',.int .i64 d'] rfl rfl hthere (by kernel_rfl) (Array.all_eq_true_iff_forall_mem.2 (by intro x hx;simp at hx;rcases hx with rfl|rfl|rfl|rfl|rfl|rfl<;>first|rfl|exact hp1)) ?_
     change K _ (set6 V3 (V1.heap.size) p' (.int .i64 rr) (.int .i64 a') (.int .i64 b') (.int .i64 c') (.int .i64 d'))
     have hTS:W0.heap.size≤V1.heap.size:=hv1.size
     have hks:∀ (bb o:Nat) (cc:Value),bb<W0.heap.size→W0.cell? ⟨bb,o,none⟩=some cc→(set6 V3 (V1.heap.size) p' (.int .i64 rr) (.int .i64 a') (.int .i64 b') (.int .i64 c') (.int .i64 d')).cell? ⟨bb,o,none⟩=some cc:=fun bb o cc hbb hcc=>keep6 (cell_stays hv3 hcc) (by show bb≠_;omega)
     refine hK.out _ _ ⟨hks _ _ _ (World.block_lt_of_cell? _ _ s0) s0,hks _ _ _ (World.block_lt_of_cell? _ _ s1) s1,hks _ _ _ (World.block_lt_of_cell? _ _ s2) s2,hks _ _ _ (World.block_lt_of_cell? _ _ s3) s3,hks _ _ _ (World.block_lt_of_cell? _ _ s4) s4,hks _ _ _ (World.block_lt_of_cell? _ _ s5) s5,hks _ _ _ (World.block_lt_of_cell? _ _ s6) s6⟩ (fun hS=>?_)
     refine tk 11 (.bool okk) hS ?_ ?_
     · rintro w' ⟨s0,s1,s2,s3,s4,s5,s6⟩
       go_simp
     simp only [td]
     refine wpAnyH_done (by kernel_rfl) ?_ _
     refine NoPanic.normal ?_
     try simp only [Exit.then]
     have HE1:=Lib.hid (show (set6 V3 (V1.heap.size) p' (.int .i64 rr) (.int .i64 a') (.int .i64 b') (.int .i64 c') (.int .i64 d')).heap[V1.heap.size]?=some (.cells #[p',.int .i64 rr,.int .i64 a',.int .i64 b',.int .i64 c',.int .i64 d'] 120 (0,0)) from blk_set6 hT3 _ _ _ _ _ _)
     have HE2:=Lib.hid (HB.out.trans ((show Below W0.heap.size W0 (set6 V3 (V1.heap.size) p' (.int .i64 rr) (.int .i64 a') (.int .i64 b') (.int .i64 c') (.int .i64 d')) from below_set6 hv3 hTS _ _ _ _ _ _).mono HB.out.size))
     clear hS hks hthere s0 s1 s2 s3 s4 s5 s6 hTS hpt
     generalize set6 V3 (V1.heap.size) p' (.int .i64 rr) (.int .i64 a') (.int .i64 b') (.int .i64 c') (.int .i64 d')=W9 at *
     obtain ⟨_,q0,q1,q2,q3,q4,q5⟩:=blk6 HE1.out
     obtain ⟨rfl,hval⟩:=HVAL.out
     have HV:=Lib.hid hval
     clear hval
     go_wp2
     go_ret
     exact ⟨by rw [←HV.out];rfl,HE2.out⟩
 · rw [if_pos (by kernel_rfl)]
   go_simp
   have hv1:Below W0.heap.size W0 ((W0.alloc (.cells #[.pointer none,.int .i64 0,.int .i64 0,.int .i64 0,.int .i64 0,.int .i64 0] 120)).drew):=((Below.refl _ W0).alloc (Nat.le_refl _) _).drew
   have hT1:((W0.alloc (.cells #[.pointer none,.int .i64 0,.int .i64 0,.int .i64 0,.int .i64 0,.int .i64 0] 120)).drew).heap[W0.heap.size]?=some (.cells #[.pointer none,.int .i64 0,.int .i64 0,.int .i64 0,.int .i64 0,.int .i64 0] 120 (0,0)):=heap_alloc_new W0 _
   have nn0:=cell_stays hv1 s0
   have nn1:=cell_stays hv1 s1
   have nn2:=cell_stays hv1 s2
   have nn3:=cell_stays hv1 s3
   have nn4:=cell_stays hv1 s4
   have nn5:=cell_stays hv1 s5
   have nn6:=cell_stays hv1 s6
   refine hK.out _ _ ⟨nn0,nn1,nn2,nn3,nn4,nn5,nn6⟩ (fun hS=>?_)
   clear nn0 nn1 nn2 nn3 nn4 nn5 nn6
   generalize (W0.alloc (.cells #[.pointer none,.int .i64 0,.int .i64 0,.int .i64 0,.int .i64 0,.int .i64 0] 120)).drew=V1 at *
   refine wpAnyH_ready (rs:=[4]) (by kernel_rfl) (by decide) (AllReadyH.cons rfl (fun K hK=>?_) AllReadyH.nil)
   rw [if_pos (by kernel_rfl)]
   go_simp
   refine (HKK.out V1 hv1).mono ?_
   rintro e V2 ⟨rfl,hb2⟩
   have hv2:Below W0.heap.size W0 V2:=hv1.trans (hb2.mono hv1.size)
   have nn0:=cell_stays hv2 s0
   have nn1:=cell_stays hv2 s1
   have nn2:=cell_stays hv2 s2
   have nn3:=cell_stays hv2 s3
   have nn4:=cell_stays hv2 s4
   have nn5:=cell_stays hv2 s5
   have nn6:=cell_stays hv2 s6
   refine hK.out _ _ ⟨nn0,nn1,nn2,nn3,nn4,nn5,nn6⟩ (fun hS=>?_)
   clear nn0 nn1 nn2 nn3 nn4 nn5 nn6
   refine wpAnyH_ready (rs:=[5]) (by kernel_rfl) (by decide) (AllReadyH.cons rfl (fun K hK=>?_) AllReadyH.nil)
   rw [if_pos (by kernel_rfl)]
   go_simp
   refine (HPT.out V2 hv2).mono ?_
   rintro e V3 ⟨hpt,hb3⟩
   have hv3:Below W0.heap.size W0 V3:=hv2.trans (hb3.mono hv2.size)
   obtain ⟨p',rr,a',b',c',d',okk,rfl,hp1,hval⟩:∃ (p':Value) (rr a' b' c' d':Int) (okk:Bool),e=.returned (.tuple #[.agg #[p',.int .i64 rr,.int .i64 a',.int .i64 b',.int .i64 c',.int .i64 d'],.bool okk])∧p'.oneCell'=true∧(okk=true∧Value.agg #[p',.int .i64 rr,.int .i64 a',.int .i64 b',.int .i64 c',.int .i64 d']=strV m kr t to):=by
    rcases hpt with ⟨to',t',_,hj,ht,rfl⟩|⟨hn,_⟩
    · have h1:=HJT.out.1
      rw [hj] at h1
      injection h1 with h1
      subst h1
      have h2:=HJT.out.2
      rw [ht] at h2
      injection h2 with h2
      subst h2
      exact ⟨_,_,_,_,_,_,true,rfl,rfl,rfl,rfl⟩
    · have h1:=hn rfl to HJT.out.1
      rw [HJT.out.2] at h1
      cases h1
   have HVAL:=Lib.hid hval
   clear hval
   have nn0:=cell_stays hv3 s0
   have nn1:=cell_stays hv3 s1
   have nn2:=cell_stays hv3 s2
   have nn3:=cell_stays hv3 s3
   have nn4:=cell_stays hv3 s4
   have nn5:=cell_stays hv3 s5
   have nn6:=cell_stays hv3 s6
   refine hK.out _ _ ⟨nn0,nn1,nn2,nn3,nn4,nn5,nn6⟩ (fun hS=>?_)
   clear nn0 nn1 nn2 nn3 nn4 nn5 nn6
   refine tk 6 (.tuple #[.agg #[p',.int .i64 rr,.int .i64 a',.int .i64 b',.int .i64 c',.int .i64 d'],.bool okk]) hS ?_ ?_
   · rintro w' ⟨s0,s1,s2,s3,s4,s5,s6⟩
     go_simp
   simp only [td]
   refine tk 7 (.agg #[p',.int .i64 rr,.int .i64 a',.int .i64 b',.int .i64 c',.int .i64 d']) hS ?_ ?_
   · rintro w' ⟨s0,s1,s2,s3,s4,s5,s6⟩
     go_simp
   simp only [td]
   refine tk 8 (.bool okk) hS ?_ ?_
   · rintro w' ⟨s0,s1,s2,s3,s4,s5,s6⟩
     go_simp
   simp only [td]
   have hT3:=blk_below (blk_below hT1 hb2 (blk_lt hT1)) hb3 (blk_lt (blk_below hT1 hb2 (blk_lt hT1)))
   have hthere:V3.there (W0.heap.size) 0 6:=fun i hi=>by
    have h4:i=0∨i=1∨i=2∨i=3∨i=4∨i=5:=by omega
    obtain ⟨_,v0,v1,v2,v3,v4,v5⟩:=blk6 hT3
    rcases h4 with rfl|rfl|rfl|rfl|rfl|rfl
    · exact ⟨by rw [Nat.add_zero,v0];rfl,blk_frozen hT3 _⟩
    · exact ⟨by rw [Nat.zero_add,v1];rfl,blk_frozen hT3 _⟩
    · exact ⟨by rw [Nat.zero_add,v2];rfl,blk_frozen hT3 _⟩
    · exact ⟨by rw [Nat.zero_add,v3];rfl,blk_frozen hT3 _⟩
    · exact ⟨by rw [Nat.zero_add,v4];rfl,blk_frozen hT3 _⟩
    · exact ⟨by rw [Nat.zero_add,v5];rfl,blk_frozen hT3 _⟩
   refine wpAnyH_ready (rs:=[10]) (by kernel_rfl) (by decide) (AllReadyH.cons rfl (fun K hK=>?_) AllReadyH.nil)
   rw [if_pos (by kernel_rfl)]
   refine wp_store_mid 120 (.tmp 5) (.tmp 14) rfl (W0.heap.size) 0 #[p',.int .i64 rr,.int .i64 a',.int .i64 b',.int .i64 c',.int .i64 d'] rfl rfl hthere (by kernel_rfl) (Array.all_eq_true_iff_forall_mem.2 (by intro x hx;simp at hx;rcases hx with rfl|rfl|rfl|rfl|rfl|rfl<;>first|rfl|exact hp1)) ?_
   change K _ (set6 V3 (W0.heap.size) p' (.int .i64 rr) (.int .i64 a') (.int .i64 b') (.int .i64 c') (.int .i64 d'))
   have hTS:W0.heap.size≤W0.heap.size:=Nat.le_refl _
   have hks:∀ (bb o:Nat) (cc:Value),bb<W0.heap.size→W0.cell? ⟨bb,o,none⟩=some cc→(set6 V3 (W0.heap.size) p' (.int .i64 rr) (.int .i64 a') (.int .i64 b') (.int .i64 c') (.int .i64 d')).cell? ⟨bb,o,none⟩=some cc:=fun bb o cc hbb hcc=>keep6 (cell_stays hv3 hcc) (by show bb≠_;omega)
   refine hK.out _ _ ⟨hks _ _ _ (World.block_lt_of_cell? _ _ s0) s0,hks _ _ _ (World.block_lt_of_cell? _ _ s1) s1,hks _ _ _ (World.block_lt_of_cell? _ _ s2) s2,hks _ _ _ (World.block_lt_of_cell? _ _ s3) s3,hks _ _ _ (World.block_lt_of_cell? _ _ s4) s4,hks _ _ _ (World.block_lt_of_cell? _ _ s5) s5,hks _ _ _ (World.block_lt_of_cell? _ _ s6) s6⟩ (fun hS=>?_)
   refine tk 11 (.bool okk) hS ?_ ?_
   · rintro w' ⟨s0,s1,s2,s3,s4,s5,s6⟩
     go_simp
   simp only [td]
   refine wpAnyH_done (by kernel_rfl) ?_ _
   refine NoPanic.normal ?_
   try simp only [Exit.then]
   have HE1:=Lib.hid (show (set6 V3 (W0.heap.size) p' (.int .i64 rr) (.int .i64 a') (.int .i64 b') (.int .i64 c') (.int .i64 d')).heap[W0.heap.size]?=some (.cells #[p',.int .i64 rr,.int .i64 a',.int .i64 b',.int .i64 c',.int .i64 d'] 120 (0,0)) from blk_set6 hT3 _ _ _ _ _ _)
   have HE2:=Lib.hid (HB.out.trans ((show Below W0.heap.size W0 (set6 V3 (W0.heap.size) p' (.int .i64 rr) (.int .i64 a') (.int .i64 b') (.int .i64 c') (.int .i64 d')) from below_set6 hv3 hTS _ _ _ _ _ _).mono HB.out.size))
   clear hS hks hthere s0 s1 s2 s3 s4 s5 s6 hTS hpt
   generalize set6 V3 (W0.heap.size) p' (.int .i64 rr) (.int .i64 a') (.int .i64 b') (.int .i64 c') (.int .i64 d')=W9 at *
   obtain ⟨_,q0,q1,q2,q3,q4,q5⟩:=blk6 HE1.out
   obtain ⟨rfl,hval⟩:=HVAL.out
   have HV:=Lib.hid hval
   clear hval
   go_wp2
   go_ret
   exact ⟨by rw [←HV.out];rfl,HE2.out⟩
end Go.Proofs.YtcfjjocmiheiaaaDoor
