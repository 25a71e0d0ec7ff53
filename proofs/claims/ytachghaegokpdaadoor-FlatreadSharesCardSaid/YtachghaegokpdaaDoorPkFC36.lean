/-
  The package view's Tree: of a struct, whatever stands behind its view. Conditions: those that each theorem names.
-/
import Derived.Test.YtachghaegokpdaaDoorPkFC23
import Derived.Test.YtachghaegokpdaaDoorPkFC31
import Derived.Test.YtachghaegokpdaaDoorPkFC33
import Derived.Test.YtachghaegokpdaaDoorPkFC34
import Derived.Test.YtachghaegokpdaaDoorPkFC35
import Derived.Deep.MidRow
namespace Go.Proofs.YtachghaegokpdaaDoor
open Go.ChangeShapes Go.WideShapes Go.ChangeAt Go.RowKit Go.Shelf
variable {base B:Nat} {W W':World} {rk:Nat} {sv ev:Value} {root:Int} {bp:Option Addr} {bc:Nat} {zs:List Int} {ss:List (SRec × Value)} {es:List (SCho × Value)} {left l':Int}
set_option maxRecDepth 100000 in
set_option maxHeartbeats 16000000 in
theorem rdval_deepN (w:World)(h:DCtx base B w rk sv ev root bp bc zs ss es left)(k r l lm:Nat)(at':Int)(room:Nat)(ht:TyM ss.length (es.map Prod.fst) k r l)(hlm:l=lm+1)(hnum:numTB k lm=true)(ha : -1000000000≤at'∧at'≤1000000000)(hj:badJ zs at'=false)(hin:inZ (lenZ zs) (toJ zs at') 4=true)(hpos:0<leAt zs (toJ zs at').toNat 4)(hr0:room=0) :
  Calls Tryd.prog 95 #[.pointer (some ⟨rk,0,none⟩),.agg #[.int .u8 k,.int .i64 r,.int .i64 l],.int .i64 at',.int .i64 room] w (RdPost (listAtZ zs (nextZ (sRecs ss) (es.map Prod.fst) zs room) k r ((l:Int)-1) (toJ zs at') left) w rk sv ev root bp bc zs):=by
 have hs1:sortP k l≠1:=by unfold sortP;rw [if_pos (by omega)];decide
 obtain ⟨hb,hq1,hq2⟩:=two_start w #[.int .u8 k,.int .i64 r,.int .i64 l] #[.int .u64 0,.slice none 0 0,.slice none 0 0,.bool false] 58 49
 have HB:=Lib.hid hb
 have HQ1:=Lib.hid hq1
 have HQ2:=Lib.hid hq2
 have H0:=Lib.hid (h.below hb)
 have HH0:=Lib.hid h
 have HV:=Lib.hid h.rows.rowV
 have HZB:=Lib.hid h.st.bytes.1
 have HRK:Hid (rk<w.heap.size):=Lib.hid (blk_lt h.st.blk)
 have HAT:=Lib.hid ha
 have hk13:=ht.hi
 have HNT:Hid (∀ W,Calls Tryd.prog 48 #[.agg #[.int .u8 k,.int .i64 r,.int .i64 l]] W fun e w'=>e=.returned (.bool false)∧Below W.heap.size W w'):=Lib.hid (fun W=>by
  have h5:=rnumI_any k (by omega) r l W
  rw [num_no hs1] at h5
  exact h5)
 have HJ:=Lib.hid hj
 have HIN:=Lib.hid hin
 have HLE:Hid (lenZ zs≤16384∧0≤left∧left≤lenZ zs):=Lib.hid ⟨h.len,h.hl⟩
 have hld:=leAt_4 zs (toJ zs at').toNat h.st.bytes.1
 have hldO:ldO zs (toJ zs at') 4=leAt zs (toJ zs at').toNat 4:=if_pos hin
 obtain ⟨n,hn⟩:∃ n:Nat,leAt zs (toJ zs at').toNat 4=n:=Int.eq_ofNat_of_zero_le hld.1
 rw [hn] at hld hldO hpos
 have hl1:(l:Int)-1=(lm:Int):=by omega
 have hwl:=IntWalk.i64_in (lm:Int) (by have:=ht.li;omega)
 rw [hl1]
 have hsb:=step_bd k (lm:Int)
 obtain ⟨st,hst⟩:∃ st,stepZ k lm=st:=⟨_,rfl⟩
 rw [hst] at hsb
 have HEQ:=Lib.hid (listAt_eq (nx:=nextZ (sRecs ss) (es.map Prod.fst) zs room) (r:=r) (left:=left) hin hn hst rfl)
 have HNV:=Lib.hid hldO
 have HTY:Hid (TyM ss.length (es.map Prod.fst) k r lm):=Lib.hid ⟨ht.lo,ht.hi,by have:=ht.li;omega,ht.en,ht.st⟩
 obtain ⟨P,hP⟩:∃ P,RdPost (listAtZ zs (nextZ (sRecs ss) (es.map Prod.fst) zs room) k r lm (toJ zs at') left) w rk sv ev root bp bc zs=P:=⟨_,rfl⟩
 rw [hP]
 have HP:=Lib.hid hP.symm
 have hi1:=inZ_iff.1 hin
 obtain ⟨a,hta⟩:∃ a:Nat,toJ zs at'=a:=⟨(toJ zs at').toNat,by omega⟩
 have HTA:=Lib.hid hta
 rw [hta] at HIN HNV
 rw [hta] at HEQ
 have HI1:Hid (a+4≤zs.length∧zs.length≤16384):=Lib.hid (by rw [hta] at hi1;have h2:=h.st.len;unfold lenZ at hi1;omega)
 have hl0:((l:Int)==0)=false:=by simp;omega
 have HN0:=Lib.hid (fun W=>rnumI_any k (by omega) r lm W)
 rw [hnum] at HN0
 have HSZ:=Lib.hid (fun W=>rsize_any k W)
 have hkst:kSize k=st:=by unfold stepZ at hst;rw [hnum,if_pos rfl] at hst;exact hst
 rw [hkst] at HSZ
 have hw8:=IntWalk.i64_in (k:Int) ⟨by omega,by omega⟩
 clear hkst
 have hroom:(room:Int)<1:=by omega
 have HNR:Hid (room=0∧n≠0):=Lib.hid ⟨hr0,by omega⟩
 have hmul:0≤(n:Int) * st∧(n:Int) * st≤40000000000:=⟨Int.mul_nonneg (by omega) (by omega),by
  have h5:(n:Int) * st≤4294967296 * 8:=Int.mul_le_mul (by omega) (by omega) (by omega) (by omega)
  omega⟩
 have hw1:=IntWalk.i64_in ((n:Int) * st) ⟨by omega,by omega⟩
 have hw2:=IntWalk.i64_in (4+(n:Int) * st) ⟨by omega,by omega⟩
 have HMU:=Lib.hid hmul
 have HSB:=Lib.hid hsb
 clear hb hq1 hq2 h hP hs1 hk13 ha ht hin hj hn hldO hi1 hst hlm hnum hld hmul hsb hr0
 go_enter Tryd.func95,Tryd.ntmps95
 go_upto_region 1 with (fail)
 generalize (w.alloc (.cells #[.int .u8 k,.int .i64 r,.int .i64 l] 58)).alloc (.cells #[.int .u64 0,.slice none 0 0,.slice none 0 0,.bool false] 49)=W0 at *
 obtain ⟨_,c0,c1,c2,c3,c4,c5⟩:=blk6 H0.out.st.blk
 obtain ⟨_,s0,s1,s2,_⟩:=blk3 HQ1.out
 go_wp2_with fail
 refine (HNT.out _).mono ?_
 rintro e W1 ⟨rfl,hb1⟩
 have HB1:=Lib.hid (HB.out.trans (hb1.mono HB.out.size))
 have H1:=Lib.hid (H0.out.below hb1)
 have P1:=Lib.hid (blk_below HQ1.out hb1 (blk_lt HQ1.out))
 have P2:=Lib.hid (blk_below HQ2.out hb1 (blk_lt HQ2.out))
 clear hb1 c0 c1 c2 c3 c4 c5 s0 s1 s2
 go_wp2_with fail
 refine (jump_ctx H1.out at' HAT.out).mono ?_
 rintro e W2 ⟨rfl,hs2,hx2⟩
 have HX2:=Lib.hid (Exw.after HB1.out hx2)
 have S2:=Lib.hid hs2
 have P12:=Lib.hid (blk_exw P1.out hx2 (blk_lt P1.out) (by have:=HRK.out;omega) (by have:=HRK.out;omega))
 have P22:=Lib.hid (blk_exw P2.out hx2 (blk_lt P2.out) (by have:=HRK.out;omega) (by have:=HRK.out;omega))
 have hx2K:=hx2
 clear hs2 hx2
 obtain ⟨_,s0,s1,s2,_⟩:=blk3 P12.out
 have H2:=Lib.hid (H1.out.exw hx2K (by have h5:=S2.out;rw [HJ.out] at h5;exact h5) HLE.out.2)
 clear hx2K
 go_wp2_with fail
 refine (rdnum_any W2 H2.out.st HV.out _ 4 (.inr rfl)).mono ?_
 rintro e W3 ⟨rfl,hs3,hx3⟩
 rw [show (false || !inZ (lenZ zs) (a:Int) ((4:Nat):Int))=false from by rw [Bool.false_or,show inZ (lenZ zs) (a:Int) ((4:Nat):Int)=true from HIN.out];rfl] at hs3
 rw [HNV.out]
 have HX3:=Lib.hid (HX2.out.then hx3)
 have H3:=Lib.hid (H2.out.exw hx3 hs3 HLE.out.2)
 have P13:=Lib.hid (blk_exw P12.out hx3 (blk_lt P12.out) (by have:=HRK.out;omega) (by have:=HRK.out;omega))
 have P23:=Lib.hid (blk_exw P22.out hx3 (blk_lt P22.out) (by have:=HRK.out;omega) (by have:=HRK.out;omega))
 clear hs3 hx3 s0 s1 s2
 obtain ⟨_,c0,c1,c2,c3,c4,c5⟩:=blk6 H3.out.st.blk
 obtain ⟨_,s0,s1,s2,_⟩:=blk3 P13.out
 have hba:Below W3.heap.size W3 (W3.alloc (.cells #[.int .u8 k,.int .i64 r,.int .i64 l] 58)):=(Below.refl _ _).alloc (Nat.le_refl _) _
 have hba5:=hba.setCell (p:=⟨W3.heap.size,2,none⟩) (Nat.le_refl _) (.int .i64 lm)
 have HEN:=Lib.hid (heap_alloc_new W3 (.cells #[.int .u8 k,.int .i64 r,.int .i64 l] 58))
 have HE2:=Lib.hid ((blk_set HEN.out 2 (.int .i64 lm)).trans rfl)
 have H5:=Lib.hid (H3.out.below hba5)
 have HX5:=Lib.hid (HX3.out.bel hba5)
 have P25:=Lib.hid (blk_below P23.out hba5 (blk_lt P23.out))
 have HE1:Hid (w.heap.size+1<W3.heap.size):=Lib.hid (blk_lt P23.out)
 clear hba hba5
 go_upto_region 31 with (fail)
 clear s0 s1 s2 c0 c1 c2 c3 c4 c5
 generalize W3.alloc (.cells #[.int .u8 k,.int .i64 r,.int .i64 l] 58)=W4 at *
 generalize W3.heap.size=E at *
 obtain ⟨_,s0,s1,s2,_⟩:=blk3 HEN.out
 have p2:=blk_frozen HEN.out 2
 go_upto_region 33 with (fail)
 clear s0 s1 s2 p2
 generalize W4.setCell ⟨E,2,none⟩ (.int .i64 lm)=W5 at *
 obtain ⟨_,s0,s1,s2,_⟩:=blk3 HE2.out
 go_wp2_with fail
 refine (HN0.out _).mono ?_
 rintro e W6 ⟨rfl,hb6⟩
 have H6:=Lib.hid (H5.out.below hb6)
 have HX6:=Lib.hid (HX5.out.bel hb6)
 have P26:=Lib.hid (blk_below P25.out hb6 (blk_lt P25.out))
 have HE6:=Lib.hid (blk_below HE2.out hb6 (blk_lt HE2.out))
 have HE9:Hid (E<W6.heap.size):=Lib.hid (blk_lt HE6.out)
 clear hb6 s0 s1 s2
 obtain ⟨_,s0,s1,s2,_⟩:=blk3 HE6.out
 go_wp2_with fail
 refine (HSZ.out _).mono ?_
 rintro e _ ⟨rfl,rfl⟩
 have HZR:Hid (listAtZ zs (nextZ (sRecs ss) (es.map Prod.fst) zs room) k r lm (toJ zs at') left=none):=Lib.hid (by
  rw [HTA.out,HEQ.out]
  split
  · rw [HNR.out.1]
    exact if_neg HNR.out.2
  · rfl)
 have HRC:Hid (0≤lenZ zs-left∧lenZ zs-left≤1000000000000):=Lib.hid (by have:=HLE.out;omega)
 obtain ⟨_,c0,c1,c2,c3,c4,c5⟩:=blk6 H6.out.st.blk
 have f5:=blk_frozen H6.out.st.blk 5
 have HS8:=Lib.hid ((blk_set H6.out.st.blk 5 (.bool true)).trans rfl)
 have HX8:=Lib.hid (HX6.out.setCell (p:=⟨rk,5,none⟩) (.inl rfl) (.bool true))
 have P28:=Lib.hid (blk_set_ne P26.out (p:=⟨rk,5,none⟩) (by have:=HRK.out;show rk≠_;omega) (.bool true))
 go_upto_region 37 with (fail)
 clear c0 c1 c2 c3 c4 c5 f5 s0 s1 s2
 generalize W6.setCell ⟨rk,5,none⟩ (.bool true)=W8 at *
 obtain ⟨_,u0,u1,u2,u3⟩:=blk4p P28.out
 have p0:=blk_frozen P28.out 0
 have p1:=blk_frozen P28.out 1
 have p2:=blk_frozen P28.out 2
 have p3:=blk_frozen P28.out 3
 go_wp2
 refine post_gen (fun Wf=>Wf.heap[w.heap.size+1]?=some (.cells #[.int .u64 0,.slice none 0 0,.slice none 0 0,.bool false] 49 (0,0))∧P (.returned (.agg #[.int .u64 0,.slice none 0 0,.slice none 0 0,.bool false])) Wf) ⟨?_,?_⟩ ?_
 · exact blk_set4 P28.out _ _ _ _
 · rw [HP.out]
   have hx4:=((((HX8.out).setCell (p:=⟨w.heap.size+1,0,none⟩) (.inr (.inr (show w.heap.size≤w.heap.size+1 by omega))) (.int .u64 0)).setCell (p:=⟨w.heap.size+1,1,none⟩) (.inr (.inr (show w.heap.size≤w.heap.size+1 by omega))) (.slice none 0 0)).setCell (p:=⟨w.heap.size+1,2,none⟩) (.inr (.inr (show w.heap.size≤w.heap.size+1 by omega))) (.slice none 0 0)).setCell (p:=⟨w.heap.size+1,3,none⟩) (.inr (.inr (show w.heap.size≤w.heap.size+1 by omega))) (.bool false)
   exact rdpost_bad HZR.out hx4 (vform _ _ _ _ _ _ _ _) HRC.out.1 HRC.out.2 (HH0.out.st.keep HV.out hx4 ((set4_blk W8 (by have:=HRK.out;omega) _ _ _ _).trans HS8.out))
 · rintro Wf ⟨e1,e2⟩
   obtain ⟨_,d0,d1,d2,d3⟩:=blk4p e1
   exact bodyPost_ret (v:=.agg #[.int .u64 0,.slice none 0 0,.slice none 0 0,.bool false]) (by simp [results,Tryd.results95,go_sem,d0,d1,d2,d3]) rfl e2
set_option maxRecDepth 100000 in
set_option maxHeartbeats 16000000 in
theorem rdval_deepO (w:World)(h:DCtx base B w rk sv ev root bp bc zs ss es left)(k r l lm:Nat)(at':Int)(room:Nat)(ht:TyM ss.length (es.map Prod.fst) k r l)(hlm:l=lm+1)(hnum:numTB k lm=false)(ha : -1000000000≤at'∧at'≤1000000000)(hj:badJ zs at'=false)(hin:inZ (lenZ zs) (toJ zs at') 4=true)(hpos:0<leAt zs (toJ zs at').toNat 4)(hr0:room=0) :
  Calls Tryd.prog 95 #[.pointer (some ⟨rk,0,none⟩),.agg #[.int .u8 k,.int .i64 r,.int .i64 l],.int .i64 at',.int .i64 room] w (RdPost (listAtZ zs (nextZ (sRecs ss) (es.map Prod.fst) zs room) k r ((l:Int)-1) (toJ zs at') left) w rk sv ev root bp bc zs):=by
 have hs1:sortP k l≠1:=by unfold sortP;rw [if_pos (by omega)];decide
 obtain ⟨hb,hq1,hq2⟩:=two_start w #[.int .u8 k,.int .i64 r,.int .i64 l] #[.int .u64 0,.slice none 0 0,.slice none 0 0,.bool false] 58 49
 have HB:=Lib.hid hb
 have HQ1:=Lib.hid hq1
 have HQ2:=Lib.hid hq2
 have H0:=Lib.hid (h.below hb)
 have HH0:=Lib.hid h
 have HV:=Lib.hid h.rows.rowV
 have HZB:=Lib.hid h.st.bytes.1
 have HRK:Hid (rk<w.heap.size):=Lib.hid (blk_lt h.st.blk)
 have HAT:=Lib.hid ha
 have hk13:=ht.hi
 have HNT:Hid (∀ W,Calls Tryd.prog 48 #[.agg #[.int .u8 k,.int .i64 r,.int .i64 l]] W fun e w'=>e=.returned (.bool false)∧Below W.heap.size W w'):=Lib.hid (fun W=>by
  have h5:=rnumI_any k (by omega) r l W
  rw [num_no hs1] at h5
  exact h5)
 have HJ:=Lib.hid hj
 have HIN:=Lib.hid hin
 have HLE:Hid (lenZ zs≤16384∧0≤left∧left≤lenZ zs):=Lib.hid ⟨h.len,h.hl⟩
 have hld:=leAt_4 zs (toJ zs at').toNat h.st.bytes.1
 have hldO:ldO zs (toJ zs at') 4=leAt zs (toJ zs at').toNat 4:=if_pos hin
 obtain ⟨n,hn⟩:∃ n:Nat,leAt zs (toJ zs at').toNat 4=n:=Int.eq_ofNat_of_zero_le hld.1
 rw [hn] at hld hldO hpos
 have hl1:(l:Int)-1=(lm:Int):=by omega
 have hwl:=IntWalk.i64_in (lm:Int) (by have:=ht.li;omega)
 rw [hl1]
 have hsb:=step_bd k (lm:Int)
 obtain ⟨st,hst⟩:∃ st,stepZ k lm=st:=⟨_,rfl⟩
 rw [hst] at hsb
 have HEQ:=Lib.hid (listAt_eq (nx:=nextZ (sRecs ss) (es.map Prod.fst) zs room) (r:=r) (left:=left) hin hn hst rfl)
 have HNV:=Lib.hid hldO
 have HTY:Hid (TyM ss.length (es.map Prod.fst) k r lm):=Lib.hid ⟨ht.lo,ht.hi,by have:=ht.li;omega,ht.en,ht.st⟩
 obtain ⟨P,hP⟩:∃ P,RdPost (listAtZ zs (nextZ (sRecs ss) (es.map Prod.fst) zs room) k r lm (toJ zs at') left) w rk sv ev root bp bc zs=P:=⟨_,rfl⟩
 rw [hP]
 have HP:=Lib.hid hP.symm
 have hi1:=inZ_iff.1 hin
 obtain ⟨a,hta⟩:∃ a:Nat,toJ zs at'=a:=⟨(toJ zs at').toNat,by omega⟩
 have HTA:=Lib.hid hta
 rw [hta] at HIN HNV
 rw [hta] at HEQ
 have HI1:Hid (a+4≤zs.length∧zs.length≤16384):=Lib.hid (by rw [hta] at hi1;have h2:=h.st.len;unfold lenZ at hi1;omega)
 have hl0:((l:Int)==0)=false:=by simp;omega
 have HN0:=Lib.hid (fun W=>rnumI_any k (by omega) r lm W)
 rw [hnum] at HN0
 obtain rfl:st=4:=by unfold stepZ at hst;rw [hnum,if_neg (by decide)] at hst;omega
 have hroom:(room:Int)<1:=by omega
 have HNR:Hid (room=0∧n≠0):=Lib.hid ⟨hr0,by omega⟩
 have hmul:0≤(n:Int) * 4∧(n:Int) * 4≤40000000000:=⟨Int.mul_nonneg (by omega) (by omega),by
  have h5:(n:Int) * 4≤4294967296 * 8:=Int.mul_le_mul (by omega) (by omega) (by omega) (by omega)
  omega⟩
 have hw1:=IntWalk.i64_in ((n:Int) * 4) ⟨by omega,by omega⟩
 have hw2:=IntWalk.i64_in (4+(n:Int) * 4) ⟨by omega,by omega⟩
 have HMU:=Lib.hid hmul
 have HSB:=Lib.hid hsb
 clear hb hq1 hq2 h hP hs1 hk13 ha ht hin hj hn hldO hi1 hst hlm hnum hld hmul hsb hr0
 go_enter Tryd.func95,Tryd.ntmps95
 go_upto_region 1 with (fail)
 generalize (w.alloc (.cells #[.int .u8 k,.int .i64 r,.int .i64 l] 58)).alloc (.cells #[.int .u64 0,.slice none 0 0,.slice none 0 0,.bool false] 49)=W0 at *
 obtain ⟨_,c0,c1,c2,c3,c4,c5⟩:=blk6 H0.out.st.blk
 obtain ⟨_,s0,s1,s2,_⟩:=blk3 HQ1.out
 go_wp2_with fail
 refine (HNT.out _).mono ?_
 rintro e W1 ⟨rfl,hb1⟩
 have HB1:=Lib.hid (HB.out.trans (hb1.mono HB.out.size))
 have H1:=Lib.hid (H0.out.below hb1)
 have P1:=Lib.hid (blk_below HQ1.out hb1 (blk_lt HQ1.out))
 have P2:=Lib.hid (blk_below HQ2.out hb1 (blk_lt HQ2.out))
 clear hb1 c0 c1 c2 c3 c4 c5 s0 s1 s2
 go_wp2_with fail
 refine (jump_ctx H1.out at' HAT.out).mono ?_
 rintro e W2 ⟨rfl,hs2,hx2⟩
 have HX2:=Lib.hid (Exw.after HB1.out hx2)
 have S2:=Lib.hid hs2
 have P12:=Lib.hid (blk_exw P1.out hx2 (blk_lt P1.out) (by have:=HRK.out;omega) (by have:=HRK.out;omega))
 have P22:=Lib.hid (blk_exw P2.out hx2 (blk_lt P2.out) (by have:=HRK.out;omega) (by have:=HRK.out;omega))
 have hx2K:=hx2
 clear hs2 hx2
 obtain ⟨_,s0,s1,s2,_⟩:=blk3 P12.out
 have H2:=Lib.hid (H1.out.exw hx2K (by have h5:=S2.out;rw [HJ.out] at h5;exact h5) HLE.out.2)
 clear hx2K
 go_wp2_with fail
 refine (rdnum_any W2 H2.out.st HV.out _ 4 (.inr rfl)).mono ?_
 rintro e W3 ⟨rfl,hs3,hx3⟩
 rw [show (false || !inZ (lenZ zs) (a:Int) ((4:Nat):Int))=false from by rw [Bool.false_or,show inZ (lenZ zs) (a:Int) ((4:Nat):Int)=true from HIN.out];rfl] at hs3
 rw [HNV.out]
 have HX3:=Lib.hid (HX2.out.then hx3)
 have H3:=Lib.hid (H2.out.exw hx3 hs3 HLE.out.2)
 have P13:=Lib.hid (blk_exw P12.out hx3 (blk_lt P12.out) (by have:=HRK.out;omega) (by have:=HRK.out;omega))
 have P23:=Lib.hid (blk_exw P22.out hx3 (blk_lt P22.out) (by have:=HRK.out;omega) (by have:=HRK.out;omega))
 clear hs3 hx3 s0 s1 s2
 obtain ⟨_,c0,c1,c2,c3,c4,c5⟩:=blk6 H3.out.st.blk
 obtain ⟨_,s0,s1,s2,_⟩:=blk3 P13.out
 have hba:Below W3.heap.size W3 (W3.alloc (.cells #[.int .u8 k,.int .i64 r,.int .i64 l] 58)):=(Below.refl _ _).alloc (Nat.le_refl _) _
 have hba5:=hba.setCell (p:=⟨W3.heap.size,2,none⟩) (Nat.le_refl _) (.int .i64 lm)
 have HEN:=Lib.hid (heap_alloc_new W3 (.cells #[.int .u8 k,.int .i64 r,.int .i64 l] 58))
 have HE2:=Lib.hid ((blk_set HEN.out 2 (.int .i64 lm)).trans rfl)
 have H5:=Lib.hid (H3.out.below hba5)
 have HX5:=Lib.hid (HX3.out.bel hba5)
 have P25:=Lib.hid (blk_below P23.out hba5 (blk_lt P23.out))
 have HE1:Hid (w.heap.size+1<W3.heap.size):=Lib.hid (blk_lt P23.out)
 clear hba hba5
 go_upto_region 31 with (fail)
 clear s0 s1 s2 c0 c1 c2 c3 c4 c5
 generalize W3.alloc (.cells #[.int .u8 k,.int .i64 r,.int .i64 l] 58)=W4 at *
 generalize W3.heap.size=E at *
 obtain ⟨_,s0,s1,s2,_⟩:=blk3 HEN.out
 have p2:=blk_frozen HEN.out 2
 go_upto_region 33 with (fail)
 clear s0 s1 s2 p2
 generalize W4.setCell ⟨E,2,none⟩ (.int .i64 lm)=W5 at *
 obtain ⟨_,s0,s1,s2,_⟩:=blk3 HE2.out
 go_wp2_with fail
 refine (HN0.out _).mono ?_
 rintro e W6 ⟨rfl,hb6⟩
 have H6:=Lib.hid (H5.out.below hb6)
 have HX6:=Lib.hid (HX5.out.bel hb6)
 have P26:=Lib.hid (blk_below P25.out hb6 (blk_lt P25.out))
 have HE6:=Lib.hid (blk_below HE2.out hb6 (blk_lt HE2.out))
 have HE9:Hid (E<W6.heap.size):=Lib.hid (blk_lt HE6.out)
 clear hb6 s0 s1 s2
 obtain ⟨_,s0,s1,s2,_⟩:=blk3 HE6.out
 have HZR:Hid (listAtZ zs (nextZ (sRecs ss) (es.map Prod.fst) zs room) k r lm (toJ zs at') left=none):=Lib.hid (by
  rw [HTA.out,HEQ.out]
  split
  · rw [HNR.out.1]
    exact if_neg HNR.out.2
  · rfl)
 have HRC:Hid (0≤lenZ zs-left∧lenZ zs-left≤1000000000000):=Lib.hid (by have:=HLE.out;omega)
 obtain ⟨_,c0,c1,c2,c3,c4,c5⟩:=blk6 H6.out.st.blk
 have f5:=blk_frozen H6.out.st.blk 5
 have HS8:=Lib.hid ((blk_set H6.out.st.blk 5 (.bool true)).trans rfl)
 have HX8:=Lib.hid (HX6.out.setCell (p:=⟨rk,5,none⟩) (.inl rfl) (.bool true))
 have P28:=Lib.hid (blk_set_ne P26.out (p:=⟨rk,5,none⟩) (by have:=HRK.out;show rk≠_;omega) (.bool true))
 go_upto_region 37 with (fail)
 clear c0 c1 c2 c3 c4 c5 f5 s0 s1 s2
 generalize W6.setCell ⟨rk,5,none⟩ (.bool true)=W8 at *
 obtain ⟨_,u0,u1,u2,u3⟩:=blk4p P28.out
 have p0:=blk_frozen P28.out 0
 have p1:=blk_frozen P28.out 1
 have p2:=blk_frozen P28.out 2
 have p3:=blk_frozen P28.out 3
 go_wp2
 refine post_gen (fun Wf=>Wf.heap[w.heap.size+1]?=some (.cells #[.int .u64 0,.slice none 0 0,.slice none 0 0,.bool false] 49 (0,0))∧P (.returned (.agg #[.int .u64 0,.slice none 0 0,.slice none 0 0,.bool false])) Wf) ⟨?_,?_⟩ ?_
 · exact blk_set4 P28.out _ _ _ _
 · rw [HP.out]
   have hx4:=((((HX8.out).setCell (p:=⟨w.heap.size+1,0,none⟩) (.inr (.inr (show w.heap.size≤w.heap.size+1 by omega))) (.int .u64 0)).setCell (p:=⟨w.heap.size+1,1,none⟩) (.inr (.inr (show w.heap.size≤w.heap.size+1 by omega))) (.slice none 0 0)).setCell (p:=⟨w.heap.size+1,2,none⟩) (.inr (.inr (show w.heap.size≤w.heap.size+1 by omega))) (.slice none 0 0)).setCell (p:=⟨w.heap.size+1,3,none⟩) (.inr (.inr (show w.heap.size≤w.heap.size+1 by omega))) (.bool false)
   exact rdpost_bad HZR.out hx4 (vform _ _ _ _ _ _ _ _) HRC.out.1 HRC.out.2 (HH0.out.st.keep HV.out hx4 ((set4_blk W8 (by have:=HRK.out;omega) _ _ _ _).trans HS8.out))
 · rintro Wf ⟨e1,e2⟩
   obtain ⟨_,d0,d1,d2,d3⟩:=blk4p e1
   exact bodyPost_ret (v:=.agg #[.int .u64 0,.slice none 0 0,.slice none 0 0,.bool false]) (by simp [results,Tryd.results95,go_sem,d0,d1,d2,d3]) rfl e2
end Go.Proofs.YtachghaegokpdaaDoor
namespace Go.Proofs.YtachghaegokpdaaDoor
open Go.ChangeShapes Go.WideShapes Go.ChangeAt Go.RowKit Go.Shelf
def ReadPost (zs:List Int)(ss:List CRec)(es:List SCho)(root mt:Nat)(ml:Int)(w:World)(e:Ending)(w':World):Prop:=
 Exc mt w.heap.size w w'∧∃ ml' mo,w'.heap[mt]?=some (.cells #[.int .i64 ml',.bool mo] 140 (0,0)) ∧
 ((∃ v l' x,zs.length≤16384∧flatZ ss es zs 12 13 root 0 0 zs.length=some (v,l')∧e=.returned (.tuple #[x,.int .i64 0])∧Shown ss 12 w' x 13 root 0 v∧mo=false∧ml'≤ml) ∨
  (e=.returned (.tuple #[.nilIface,.int .i64 20])∧(16384<zs.length∨flatZ ss es zs 12 13 root 0 0 zs.length=none)) ∨
  (e=.returned (.tuple #[.nilIface,.int .i64 3])∧zs.length≤16384∧ml<3 * (zs.length:Int)))
theorem flat_struct {ss:List CRec}{es:List SCho}{zs:List Int}{room r:Nat}{at' left:Int}{q:PV × Int}{to:Int}{t:TabZ}(h:flatZ ss es zs room 13 r 0 at' left=some q)(hj:jumpZ zs at'=some to)(ht:tabZ zs to=some t):structT ss zs (nextZ ss es zs room) r to t left=some q:=by
 rw [flatZ_eq] at h
 unfold valZ at h
 rw [if_neg (by decide),if_neg (by decide),if_neg (by decide),if_pos (by decide)] at h
 obtain ⟨to',hj',hg⟩:=point_some h
 rw [hj] at hj'
 injection hj' with hj'
 subst hj'
 rw [structAt_some ht] at hg
 exact hg
set_option maxRecDepth 100000 in
set_option maxHeartbeats 16000000 in
theorem fread_any (w:World){base B:Nat}{ss:List (SRec × Value)}{es:List (SCho × Value)}{sv ev:Value}(root:Nat){bp:Option Addr}{bc mt:Nat}{zs:List Int}{ml:Int}(h:SchRows base w ss es sv ev)(hS:SchM ss (es.map Prod.fst))(hD:∀ q ∈ ss,DfltsOk (es.map Prod.fst) (cR q.1).fields)(hE:es.length≤1000000∧∀ q ∈ es,q.1.names.length≤1000000)(hr:root<ss.length)
  (hz:Bytes w bp zs) (hl:zs.length≤1000000) (hc:zs.length≤bc) (hm:w.heap[mt]?=some (.cells #[.int .i64 ml,.bool false] 140 (0,0))) (hml:0≤ml∧ml≤9223372036854775807) (hB:B≤mt) (hA:Amb B w) :
  Calls Tryd.prog 38 #[.agg #[sv,ev,.int .i64 root],.slice bp zs.length bc,.pointer (some ⟨mt,0,none⟩)] w (ReadPost zs (sRecs ss) (es.map Prod.fst) root mt ml w):=by
 have hb:=(Below.refl w.heap.size w).alloc (Nat.le_refl _) (.cells #[sv,ev,.int .i64 root] 33)
 have HB:=Lib.hid hb
 have HQ:=Lib.hid (heap_alloc_new w (.cells #[sv,ev,.int .i64 root] 33))
 have HM:=Lib.hid hm
 have HML:=Lib.hid hml
 have HR:=Lib.hid hr
 have HMW:Hid (mt<w.heap.size):=Lib.hid (blk_lt hm)
 have HBA:=Lib.hid (And.intro hB hA)
 have HSD:=Lib.hid (And.intro hS hD)
 by_cases hlong:16384<zs.length
 · have hli:(16384:Int)<zs.length:=by omega
   have HLO:=Lib.hid hlong
   clear hb h hS hD hE hz hc hm hml hB hA hr hlong
   obtain ⟨P,hP⟩:∃ P,ReadPost zs (sRecs ss) (es.map Prod.fst) root mt ml w=P:=⟨_,rfl⟩
   rw [hP]
   have HP:=Lib.hid hP.symm
   clear hP
   go_enter Tryd.func38,Tryd.ntmps38
   go_wp2
   rw [HP.out]
   exact ⟨Exc.of_below HB.out,ml,false,blk_below HM.out HB.out HMW.out,.inr (.inl ⟨rfl,.inl HLO.out⟩)⟩
 have hl2:zs.length≤16384:=by omega
 have HNEW:Hid (∀ W,Below w.heap.size w W→Calls Tryd.prog 59 #[.agg #[sv,ev,.int .i64 root],.slice bp zs.length bc] W fun e w'=>(∃ m sv' ev' fs ns,e=.returned (.pointer (some ⟨m,0,none⟩))∧W.heap.size≤m∧MsgOf W.heap.size w' m bp bc sv' ev' zs ss (es.map Prod.fst) fs ns)∧Below W.heap.size W w'):=Lib.hid (fun W hW=>fnew_any W root (h.below hW) hS hE (hz.below (Nat.le_refl _) hW) hl2 hc)
 have hli:¬(16384:Int)<zs.length:=by omega
 have HL2:=Lib.hid hl2
 obtain ⟨P,hP⟩:∃ P,ReadPost zs (sRecs ss) (es.map Prod.fst) root mt ml w=P:=⟨_,rfl⟩
 rw [hP]
 have HP:=Lib.hid hP.symm
 clear hb h hS hD hE hz hc hm hml hB hA hr hlong hP
 go_enter Tryd.func38,Tryd.ntmps38
 go_upto_region 3 with (fail)
 generalize w.alloc (.cells #[sv,ev,.int .i64 root] 33)=W1 at *
 obtain ⟨_,s0,s1,s2,_⟩:=blk3 HQ.out
 go_wp2_with fail
 refine (HNEW.out W1 HB.out).mono ?_
 rintro e W2 ⟨⟨m,sv',ev',fs,ns,rfl,hm,hmsg⟩,hb2⟩
 have HB2:=Lib.hid (HB.out.trans (hb2.mono HB.out.size))
 have HQ2:=Lib.hid (blk_below HQ.out hb2 (blk_lt HQ.out))
 have HMS:=Lib.hid hmsg
 clear hmsg hb2 s0 s1 s2
 go_upto_region 4 with (fail)
 have hba:Below W2.heap.size W2 (W2.alloc (.cells #[.pointer (some ⟨m,0,none⟩),.pointer (some ⟨mt,0,none⟩),.bool false,.int .i64 zs.length] 131)):=(Below.refl _ _).alloc (Nat.le_refl _) _
 have HWN:=Lib.hid (heap_alloc_new W2 (.cells #[.pointer (some ⟨m,0,none⟩),.pointer (some ⟨mt,0,none⟩),.bool false,.int .i64 zs.length] 131))
 have HB3:=Lib.hid (HB2.out.trans (hba.mono HB2.out.size))
 have HQ3:=Lib.hid (blk_below HQ2.out hba (blk_lt HQ2.out))
 have HMS3:=Lib.hid (HMS.out.below hba)
 have HKL:Hid (w.heap.size≤W2.heap.size):=Lib.hid HB2.out.size
 clear hba
 generalize W2.alloc (.cells #[.pointer (some ⟨m,0,none⟩),.pointer (some ⟨mt,0,none⟩),.bool false,.int .i64 zs.length] 131)=W3 at *
 generalize W2.heap.size=wk at *
 have HST3:Hid (WState W3 wk m mt false zs.length ml false):=Lib.hid ⟨HWN.out,blk_below HM.out HB3.out HMW.out⟩
 have HCT:=Lib.hid (show RCtx W1.heap.size W3 m bp bc sv' ev' zs ss (es.map Prod.fst) fs ns wk mt B zs.length ml from ⟨HMS3.out,HST3.out,by have:=HL2.out;omega,HML.out,⟨by have:=HBA.out.1;have:=HMW.out;have:=HB3.out.size;omega,by have:=HBA.out.1;have:=HMW.out;have:=HKL.out;omega,HBA.out.1⟩,HBA.out.2.below (HB3.out.mono (by have:=HBA.out.1;have:=HMW.out;omega)),HSD.out.1⟩)
 obtain ⟨_,s0,s1,s2,_⟩:=blk3 HQ3.out
 go_wp2_with fail
 refine (fwhole HCT.out root HR.out).mono ?_
 rintro e W4 ⟨hx,hpost⟩
 have HX:=Lib.hid hx
 have HEX:Hid (Exc mt w.heap.size w W4):=Lib.hid ((Exc.of_below HB3.out).trans ⟨hx.os,hx.tape,hx.output,hx.size,fun k hk hr=>hx.block k (Nat.lt_of_lt_of_le hk HB3.out.size) (by have:=HKL.out;omega) hr⟩)
 clear hx s0 s1 s2
 rcases hpost with ⟨v,l',ml',to,t,hres,hj,ht,rfl,hst,hle⟩|⟨⟨_,rr,a,b,c,d,⟨pp,rfl⟩,rfl⟩,o,l',ml',mo,hst,ho1,ho2⟩
 · have hjb:=jump_bd HMS.out.msg.bytes.1 hj
   have hgt:=flat_struct hres hj ht
   have HSH:=Lib.hid (fun W (hW:Below W4.heap.size W4 W)=>(fshow_all 12).struct ((HMS3.out.exw HST3.out HX.out).below hW) HSD.out.1 HSD.out.2 root t to _ _ _ HR.out ht (by have:=HL2.out;unfold lenZ at hjb;omega) hgt)
   have HS4:=Lib.hid hst
   have HRES:=Lib.hid hres
   have HLE:=Lib.hid hle
   unfold strV at *
   clear hjb hgt hres hj ht hst hle
   go_upto_region 5 with (fail)
   have hba:Below W4.heap.size W4 (W4.alloc (.cells #[.pointer (some ⟨m,0,none⟩),.int .i64 root,.int .i64 to,.int .i64 t.own,.int .i64 t.la,.int .i64 t.size] 135)):=(Below.refl _ _).alloc (Nat.le_refl _) _
   have HSN:=Lib.hid (heap_alloc_new W4 (.cells #[.pointer (some ⟨m,0,none⟩),.int .i64 root,.int .i64 to,.int .i64 t.own,.int .i64 t.la,.int .i64 t.size] 135))
   have HB5:=Lib.hid hba
   have HS5:=Lib.hid (HS4.out.below hba)
   clear hba
   generalize W4.alloc (.cells #[.pointer (some ⟨m,0,none⟩),.int .i64 root,.int .i64 to,.int .i64 t.own,.int .i64 t.la,.int .i64 t.size] 135)=W5 at *
   obtain ⟨_,c0,c1,c2,c3⟩:=blk4w HS5.out.walk
   obtain ⟨_,y0,y1,y2,y3,y4,y5⟩:=blk6 HSN.out
   go_wp2
   rw [HP.out]
   exact ⟨HEX.out.trans (Exc.of_below (HB5.out.mono HEX.out.size)),ml',false,HS5.out.meter,.inl ⟨v,l',_,HL2.out,HRES.out,rfl,HSH.out W5 HB5.out,rfl,HLE.out⟩⟩
 · have HS4:=Lib.hid hst
   have HO1:=Lib.hid ho1
   have HO2:=Lib.hid ho2
   clear hst ho1 ho2
   go_upto_region 5 with (fail)
   have hba:Below W4.heap.size W4 (W4.alloc (.cells #[.pointer pp,.int .i64 rr,.int .i64 a,.int .i64 b,.int .i64 c,.int .i64 d] 135)):=(Below.refl _ _).alloc (Nat.le_refl _) _
   have HB5:=Lib.hid hba
   have HS5:=Lib.hid (HS4.out.below hba)
   clear hba
   generalize W4.alloc (.cells #[.pointer pp,.int .i64 rr,.int .i64 a,.int .i64 b,.int .i64 c,.int .i64 d] 135)=W5 at *
   obtain ⟨_,c0,c1,c2,c3⟩:=blk4w HS5.out.walk
   cases o with
   | true =>
    go_wp2
    rw [HP.out]
    exact ⟨HEX.out.trans (Exc.of_below (HB5.out.mono HEX.out.size)),ml',mo,HS5.out.meter,.inr (.inr ⟨rfl,HL2.out,HO2.out trivial⟩)⟩
   | false =>
    go_wp2
    rw [HP.out]
    exact ⟨HEX.out.trans (Exc.of_below (HB5.out.mono HEX.out.size)),ml',mo,HS5.out.meter,.inr (.inl ⟨rfl,.inr (HO1.out trivial)⟩)⟩
end Go.Proofs.YtachghaegokpdaaDoor
namespace Go.Proofs.YtachghaegokpdaaDoor
open Go.ChangeShapes Go.WideShapes Go.ChangeAt Go.RowKit Go.Shelf
def SStAt (w:World)(B K n:Nat)(ks:List PV)(sv ev:Value)(root:Int)(x:Value)(wr:World):Prop:=∃ (j:Nat) (l:List KV),j≤n∧x=.int .i64 j∧l.length=n∧wr.ownsRow (B+1+1) 49 4 (.slice (some ⟨K,0,none⟩) n n) n (kvsCells l)∧(∃ cur,wr.heap[K]?=some (.cells cur 49 (0,0))) ∧
 KidsIn (rowS (B+1+1) (.slice (some ⟨K,0,none⟩) n n)) wr l∧(∀ i (h1:i<l.length) (h2:i<ks.length),i<j→l[i].v=ks[i])∧wr.heap[B+1]?=some (.cells #[.int .u64 0,.slice none 0 0,.slice none 0 0,.bool false] 49 (0,0)) ∧
 wr.heap[B]?=some (.cells #[sv,ev,.int .i64 root] 33 (0,0))∧Below B w wr
theorem shown_struct {ss:List (CRec × Value)}{room:Nat}{w:World}{v:Value}{k:Nat}{ref lists:Int}{q:PV}(hs:sortP k lists=4)(h:Shown (ss.map Prod.fst) room w v k ref lists q):(∃ T r,v=.iface T r)∧(q.num=0∧q.bytes=[]∧q.has=true)∧∃ (i r:Nat) (hi:i<ss.length),ref=i∧room=r+1∧q.kids.length=ss[i].1.fields.length ∧
  ∀ j (hj:j<q.kids.length) (hf:j<ss[i].1.fields.length),AskOk (Shown (ss.map Prod.fst) r) true w v j ss[i].1.fields[j].kind ss[i].1.fields[j].ref ss[i].1.fields[j].lists (q.kids[j]'hj):=by
 cases room with
 | zero =>
  obtain ⟨h1,_⟩:=h
  rw [hs] at h1;cases h1
 | succ r =>
  rcases h with ⟨h1,_⟩|⟨_,h1,h2⟩
  · rw [hs] at h1;cases h1
  · have hr:=h1.within
    rw [List.length_map] at hr
    obtain ⟨i,rfl⟩:=Int.eq_ofNat_of_zero_le hr.1
    have hi:i<ss.length:=by omega
    have hge:recAt (ss.map Prod.fst) ((i:Nat):Int)=ss[i].1:=by
     unfold recAt
     rw [Int.toNat_natCast,List.getD,List.getElem?_map,List.getElem?_eq_getElem hi]
     rfl
    have hfew:=h1.few
    rw [hge] at hfew h2
    exact ⟨h1.there,h1.bare,i,r,hi,rfl,rfl,hfew,h2⟩
set_option maxRecDepth 100000 in
set_option maxHeartbeats 8000000 in
theorem sstructtree {ss:List (CRec × Value)}{es:List (SCho × Value)}(hF:FldsOk ss)(hFew:∀ i (hi:i<ss.length),(ss[i]'hi).1.fields.length≤1000000)(room:Nat)(hr12:room≤12)(hnx:∀ r,room=r+1→KidAtS ss es r):StructAtS ss es room:=by
 intro w base sv ev root k0 rec lists0 x v h hs hsh
 obtain ⟨sa,sc,ea,ec,rfl,rfl⟩:=h.forms
 obtain ⟨⟨T,rv,rfl⟩,hx0,i,r,hi,rfl,hr,hlen,hask⟩:=shown_struct hs hsh
 obtain ⟨h0,h1,h2⟩:=two_start w #[.slice sa ss.length sc,.slice ea es.length ec,.int .i64 root] #[.int .u64 0,.slice none 0 0,.slice none 0 0,.bool false] 33 49
 have HCW:=Lib.hid h
 have HB:=Lib.hid h0
 have HC0:=Lib.hid (h.below h0)
 have Q1:=Lib.hid h1
 have Q2:=Lib.hid h2
 have HKA:=Lib.hid (hnx r hr)
 have HASK:=Lib.hid hask
 have HLEN:=Lib.hid hlen
 have HX0:=Lib.hid hx0
 have HOK:=Lib.hid (hF _ (List.getElem_mem hi))
 have hrn:((room:Int)==0)=false:=by simp;omega
 have hrw:(room:Int)-1=(r:Int):=by omega
 have hrw2:IntKind.i64.wrap (r:Int)=r:=IntWalk.i64_in _ (by omega)
 have HROWS:Hid (∀ W,Below w.heap.size w W→W.ownsRow base 60 5 ss[i].2 ss[i].1.fields.length (cfldsCells ss[i].1.fields)):=Lib.hid (fun W hb=>row_keep hb (h.fields _ (List.getElem_mem hi)))
 have hfl:ss[i].1.fields.length≤1000000:=hFew i hi
 clear h0 h1 h2 h hsh hnx hx0 hs hask hF hr hlen
 have e0:=viewT_no T rv
 go_enter Tryd.func61,Tryd.ntmps61
 go_upto_region 1 with (fail)
 generalize (w.alloc (.cells #[.slice sa ss.length sc,.slice ea es.length ec,.int .i64 root] 33)).alloc (.cells #[.int .u64 0,.slice none 0 0,.slice none 0 0,.bool false] 49)=W0 at *
 obtain ⟨_,s0,s1,s2,_⟩:=blk3 Q1.out
 go_wp2_with fail
 refine (vfields_any W0 root i HC0.out).mono ?_
 rintro e W1 ⟨hb1,hpost⟩
 have HB1:=Lib.hid (HB.out.trans (hb1.mono HB.out.size))
 have P1:=Lib.hid (blk_below Q1.out hb1 (blk_lt Q1.out))
 have P2:=Lib.hid (blk_below Q2.out hb1 (blk_lt Q2.out))
 clear hb1 s0 s1 s2 Q1 Q2 HB HC0
 rcases hpost with ⟨hno,rfl⟩|⟨i',hi',hii,rfl⟩
 · exact absurd ⟨by omega,by omega⟩ hno
 obtain rfl:i=i':=by omega
 obtain ⟨fa,fc,hf⟩:=ownsRow_form (HROWS.out w (Below.refl _ _))
 rw [hf] at HROWS ⊢
 obtain ⟨n,hn⟩:∃ n,ss[i].1.fields.length=n:=⟨_,rfl⟩
 generalize ss[i].1.fields=xs at *
 obtain rfl:=hn
 have hmk:=make_vals xs.length hfl W1
 clear hf hii
 go_upto_region 5 with (fail)
 have hba:Below W1.heap.size W1 (W1.alloc (.cells (rowN (List.replicate xs.length 0)).toArray 49)):=(Below.refl _ _).alloc (Nat.le_refl _) _
 have HKB:=Lib.hid (heap_alloc_new W1 (.cells (rowN (List.replicate xs.length 0)).toArray 49))
 have HKK:Hid (w.heap.size+1<W1.heap.size):=Lib.hid (blk_lt P2.out)
 have HB2:=Lib.hid (HB1.out.trans (hba.mono HB1.out.size))
 have R1:=Lib.hid (blk_below P1.out hba (blk_lt P1.out))
 have R2:=Lib.hid (blk_below P2.out hba (blk_lt P2.out))
 clear hba hmk P1 P2 HB1
 generalize W1.alloc (.cells (rowN (List.replicate xs.length 0)).toArray 49)=W2 at *
 generalize W1.heap.size=K at *
 have HST:Hid (SStAt w w.heap.size K xs.length x.kids (.slice sa ss.length sc) (.slice ea es.length ec) root (.int .i64 ((0:Nat):Int)) W2):=Lib.hid ⟨0,List.replicate xs.length nilKV,Nat.zero_le _,rfl,List.length_replicate,by
   have hsz:(rowN (List.replicate xs.length 0)).toArray.size=xs.length * 4:=by rw [List.size_toArray,rowN_len,List.length_replicate]
   have h:=own_blk (base:=w.heap.size+1+1) (n:=xs.length) (size:=4) HKB.out HKK.out (by unfold maxLen;omega) hsz
   rw [rowN_kv] at h
   exact h,⟨_,HKB.out⟩,fun q hq=>by rw [List.eq_of_mem_replicate hq];exact vh_nil _ _,fun i _ _ h=>absurd h (Nat.not_lt_zero _),R2.out,R1.out,HB2.out⟩
 clear HKB R1 R2
 go_wp2_with fail
 go_loopw [37] (fun y wr=>SStAt w w.heap.size K xs.length x.kids (.slice sa ss.length sc) (.slice ea es.length ec) root y wr) (fun y _=>xs.length-(intOf y).toNat)
 case atStart=>exact HST.out
 case round =>
  obtain ⟨j,l,hj,rfl,hll,hrow,hcur,hkin,hkv,hR,hSB,hbw⟩:=hrel
  have HROW:=Lib.hid hrow
  have HCUR:=Lib.hid hcur
  have HKI:=Lib.hid hkin
  have HKV:=Lib.hid hkv
  have HR:=Lib.hid hR
  have HSB:=Lib.hid hSB
  have HBW:=Lib.hid hbw
  have HLL:=Lib.hid hll
  clear hrow hcur hkin hkv hR hSB hbw hll
  by_cases hjl:j<xs.length
  · have hji:(j:Int)<(xs.length:Int):=by omega
    have hji0:(0:Int)≤(j:Int):=by omega
    have hjk:j<x.kids.length:=by have:=HLEN.out;omega
    obtain ⟨g,cc,hv,hcc,hgl,hcell⟩:=row_el cfldCells 5 (fun _=>rfl) (HROWS.out wr HBW.out) j hjl
    obtain ⟨rfl,rfl⟩:=slice_inj hv
    have hask:=HASK.out j hjk hjl
    obtain ⟨hk255,hl0,hl1,_⟩:=HOK.out _ (List.getElem_mem hjl)
    obtain ⟨q,hq⟩:∃ q,x.kids[j]=q:=⟨_,rfl⟩
    obtain ⟨f,hf⟩:∃ f,xs[j]=f:=⟨_,rfl⟩
    rw [hq,hf] at hask
    rw [hf] at hcell hk255 hl0 hl1
    have x0:wr.cell? ⟨g,j * 5,none⟩=some (.string f.name):=hcell 0 (by omega)
    have x1:wr.cell? ⟨g,j * 5+1,none⟩=some (.int .u8 f.kind):=hcell 1 (by omega)
    have x2:wr.cell? ⟨g,j * 5+2,none⟩=some (.int .i64 f.ref):=hcell 2 (by omega)
    have x3:wr.cell? ⟨g,j * 5+3,none⟩=some (.int .i64 f.lists):=hcell 3 (by omega)
    have x4:wr.cell? ⟨g,j * 5+4,none⟩=some (.int .u64 f.dflt):=hcell 4 (by omega)
    have HQ:=Lib.hid hq
    have HK:Hid (∀ W,Below wr.heap.size wr W→Calls Tryd.prog 85 #[.agg #[.slice sa ss.length sc,.slice ea es.length ec,.int .i64 root],.agg #[.int .u8 f.kind,.int .i64 f.ref,.int .i64 f.lists],.iface T rv,.int .i64 j,.int .i64 r] W (TreePost W q)):=Lib.hid (fun W hb=>HKA.out W base _ _ root f.kind f.ref f.lists q _ j (HCW.out.below (HBW.out.trans (hb.mono HBW.out.size))) hk255 hl0 hl1 (by omega) (hask.later (HBW.out.trans (hb.mono HBW.out.size))))
    have hzc:∀ u,u<4→∃ o,wr.cell? ⟨K,j * 4+u,none⟩=some o:=fun u hu=>by
     obtain ⟨g',c',hv',_,_,hc'⟩:=row_el kvCells 4 (fun _=>rfl) (l:=l) (by rw [HLL.out];exact HROW.out) j (by rw [HLL.out];exact hjl)
     have hv'':=(slice_inj hv').1
     injection hv'' with hv''
     injection hv'' with hv'' _ _
     subst hv''
     have h4:(kvCells (l[j]'(by rw [HLL.out];exact hjl))).length=4:=rfl
     exact ⟨_,(hc' u hu).trans (List.getElem?_eq_getElem (by rw [h4];exact hu))⟩
    have HZC:=Lib.hid hzc
    clear hcell hv hq hf hask hk255 hl0 hl1 hzc
    generalize f.name=xn at *
    generalize f.kind=xk at *
    generalize f.ref=xr at *
    generalize f.lists=xl at *
    generalize f.dflt=xd at *
    go_upto_region 8 with (fail)
    have hba:Below wr.heap.size wr (wr.alloc (.cells #[.string xn,.int .u8 xk,.int .i64 xr,.int .i64 xl,.int .u64 xd] 60)):=(Below.refl _ _).alloc (Nat.le_refl _) _
    have HFB:=Lib.hid (heap_alloc_new wr (.cells #[.string xn,.int .u8 xk,.int .i64 xr,.int .i64 xl,.int .u64 xd] 60))
    have HBA:=Lib.hid hba
    have HSB5:=Lib.hid (blk_below HSB.out hba (blk_lt HSB.out))
    clear x0 x1 x2 x3 x4 hba
    generalize wr.alloc (.cells #[.string xn,.int .u8 xk,.int .i64 xr,.int .i64 xl,.int .u64 xd] 60)=W5 at *
    obtain ⟨_,s0,s1,s2,_⟩:=blk3 HSB5.out
    obtain ⟨_,y0,y1,y2,y3,y4,_⟩:=blk5 HFB.out
    go_wp2_with fail
    refine (HK.out W5 HBA.out).mono ?_
    rintro e W6 ⟨⟨val6,rfl,hvh6⟩,hb6⟩
    obtain ⟨ba,ka,bcc,kcc,rfl,_⟩:=IsV.form hvh6
    have hb56:Below wr.heap.size wr W6:=HBA.out.trans (hb6.mono HBA.out.size)
    obtain ⟨cur,hcur⟩:=HCUR.out
    have hK6:=blk_below hcur hb56 (blk_lt hcur)
    obtain ⟨o0,z0⟩:=HZC.out 0 (by decide)
    obtain ⟨o1,z1⟩:=HZC.out 1 (by decide)
    obtain ⟨o2,z2⟩:=HZC.out 2 (by decide)
    obtain ⟨o3,z3⟩:=HZC.out 3 (by decide)
    replace z0:=cell_stays hb56 z0
    replace z1:=cell_stays hb56 z1
    replace z2:=cell_stays hb56 z2
    replace z3:=cell_stays hb56 z3
    rw [Nat.add_zero] at z0
    have f0:=blk_frozen hK6 (j * 4)
    have f1:=blk_frozen hK6 (j * 4+1)
    have f2:=blk_frozen hK6 (j * 4+2)
    have f3:=blk_frozen hK6 (j * 4+3)
    have hKlt:=blk_lt hcur
    have hWV:=HBA.out.size
    have HVH6:=Lib.hid hvh6
    have HB56:=Lib.hid hb56
    have HK6:=Lib.hid hK6
    have HKLT:=Lib.hid hKlt
    have HWV:=Lib.hid hWV
    clear s0 s1 s2 y0 y1 y2 y3 y4 HK hvh6 hb6 hb56 hK6 hcur hKlt hWV
    go_wp2
    go_roundw
    case rel =>
     have hkk:=HKK.out
     have hKlt:=HKLT.out
     have hWV:=HWV.out
     have hs9:((((W6.setCell ⟨K,j * 4,none⟩ (.int .u64 q.num)).setCell ⟨K,j * 4+1,none⟩ (.slice ba q.bytes.length bcc)).setCell ⟨K,j * 4+2,none⟩ (.slice ka q.kids.length kcc)).setCell ⟨K,j * 4+3,none⟩ (.bool q.has)).heap.size=W6.heap.size:=by simp [World.setCell]
     have rheap:∀ k,k≠K→((((W6.setCell ⟨K,j * 4,none⟩ (.int .u64 q.num)).setCell ⟨K,j * 4+1,none⟩ (.slice ba q.bytes.length bcc)).setCell ⟨K,j * 4+2,none⟩ (.slice ka q.kids.length kcc)).setCell ⟨K,j * 4+3,none⟩ (.bool q.has)).heap[k]?=W6.heap[k]?:=fun k hk=>(Below.heap_setCell _ _ _ _ (by show k≠K;exact hk)).trans ((Below.heap_setCell _ _ _ _ (by show k≠K;exact hk)).trans ((Below.heap_setCell _ _ _ _ (by show k≠K;exact hk)).trans (Below.heap_setCell _ _ _ _ (by show k≠K;exact hk))))
     have hjl':j<l.length:=by rw [HLL.out];exact hjl
     refine ⟨j+1,l.set j ⟨q,.int .u64 q.num,.slice ba q.bytes.length bcc,.slice ka q.kids.length kcc,.bool q.has⟩,by omega,by go_num,by rw [List.length_set];exact HLL.out,?_,?_,?_,?_,(rheap _ (by omega)).trans (blk_below HR.out HB56.out (blk_lt HR.out)),(rheap _ (by omega)).trans (blk_below HSB.out HB56.out (blk_lt HSB.out)),?_⟩
     · have h:=own_put (own_put (own_put (own_put (row_keep HB56.out HROW.out) (j * 4) (.int .u64 q.num)) (j * 4+1) (.slice ba q.bytes.length bcc)) (j * 4+2) (.slice ka q.kids.length kcc)) (j * 4+3) (.bool q.has)
       rw [kvs_set l j ⟨q,.int .u64 q.num,.slice ba q.bytes.length bcc,.slice ka q.kids.length kcc,.bool q.has⟩ hjl'] at h
       exact h
     · exact ⟨_,blk_set (blk_set (blk_set (blk_set HK6.out _ _) _ _) _ _) _ _⟩
     · intro p hp
       rcases List.mem_or_eq_of_mem_set hp with h|h
       · refine (HKI.out p h).step (by rw [hs9];exact HB56.out.size) (fun k hk hs=>?_)
         have hne:k≠K:=fun e=>(rowS_no.1 hs).2 (by rw [e];rfl)
         exact ⟨hs,(rheap k hne).trans (HB56.out.block k hk)⟩
       · subst h
         refine VH.step HVH6.out (by rw [hs9];exact Nat.le_refl _) (fun k hk hs=>?_)
         have h1:W5.heap.size≤k:=by unfold newS at hs;simpa using hs
         exact ⟨rowS_no.2 ⟨by omega,fun e=>by have e2:some K=some k:=e;injection e2 with e2;omega⟩,rheap k (by omega)⟩
     · intro i h1 h2 hi
       rw [List.getElem_set]
       split
       · rename_i e
         subst e
         exact HQ.out.symm
       · exact HKV.out i (by rw [List.length_set] at h1;exact h1) h2 (by omega)
     · exact ((((HBW.out.trans (HB56.out.mono HBW.out.size)).setCell (p:=⟨K,j * 4,none⟩) (show w.heap.size≤K by omega) _).setCell (p:=⟨K,j * 4+1,none⟩) (show w.heap.size≤K by omega) _).setCell (p:=⟨K,j * 4+2,none⟩) (show w.heap.size≤K by omega) _).setCell (p:=⟨K,j * 4+3,none⟩) (show w.heap.size≤K by omega) _
    case measure=>simp [intOf];omega
  · obtain rfl:j=xs.length:=by omega
    obtain ⟨_,u0,u1,u2,u3⟩:=blk4p HR.out
    have p0:=blk_frozen HR.out 0
    have p1:=blk_frozen HR.out 1
    have p2:=blk_frozen HR.out 2
    have p3:=blk_frozen HR.out 3
    clear hjl
    go_wp2
    refine post_gen (fun Wf=>Wf.heap[w.heap.size+1]?=some (.cells #[.int .u64 0,.slice none 0 0,.slice (some ⟨K,0,none⟩) xs.length xs.length,.bool true] 49 (0,0))∧Below w.heap.size w Wf∧Wf.ownsRow (w.heap.size+1+1) 49 4 (.slice (some ⟨K,0,none⟩) xs.length xs.length) xs.length (kvsCells l)∧KidsIn (rowS (w.heap.size+1+1) (.slice (some ⟨K,0,none⟩) xs.length xs.length)) Wf l) ⟨?_,?_,?_,?_⟩ ?_
    · exact blk_set4 (w:=wr) HR.out _ _ _ _
    · exact below_set4 HBW.out (Nat.le_succ _) _ _ _ _
    · exact own_set4 HROW.out (by omega) _ _ _ _
    · exact HKI.out.step (by simp [World.setCell]) (fun k hk hS=>⟨hS,set4_blk wr (by have:=(rowS_no.1 hS).1;omega) _ _ _ _⟩)
    · rintro Wf ⟨e1,e2,e3,e4⟩
      obtain ⟨_,d0,d1,d2,d3⟩:=blk4p e1
      have hxe:PV.mk 0 [] (l.map KV.v) true=x:=by
       have hm:l.map KV.v=x.kids:=by
        apply List.ext_getElem
        · rw [List.length_map,HLL.out,HLEN.out]
        · intro i h1 h2
          rw [List.getElem_map]
          exact HKV.out i (by simpa using h1) h2 (by have:=HLEN.out;omega)
       rw [hm,pv_eq x,HX0.out.1,HX0.out.2.1,HX0.out.2.2]
       rfl
      have hvh:=vh_kids (S':=newS w.heap.size) e3 e4 (fun k hS=>by have:=(rowS_no.1 hS).1;unfold newS;simp;omega) (fun k hk=>by unfold newS;simp;omega) true
      rw [hxe] at hvh
      exact bodyPost_ret (v:=.tuple #[.agg #[.int .u64 0,.slice none 0 0,.slice (some ⟨K,0,none⟩) xs.length xs.length,.bool true],.bool true]) (by simp [results,Tryd.results61,go_sem,d0,d1,d2,d3]) rfl ⟨⟨_,rfl,hvh⟩,e2⟩
end Go.Proofs.YtachghaegokpdaaDoor
