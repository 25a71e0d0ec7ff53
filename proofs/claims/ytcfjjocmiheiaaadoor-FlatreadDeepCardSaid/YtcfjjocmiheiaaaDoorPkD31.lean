/-
  The document's own reading of tables: lists of nothing. Conditions: those that each theorem names.
-/
import Derived.Test.YtcfjjocmiheiaaaDoorPkD29
namespace Go.Proofs.YtcfjjocmiheiaaaDoor
open Go.ChangeShapes Go.WideShapes Go.ChangeAt Go.RowKit Go.Shelf
variable {base B:Nat} {W W':World} {rk:Nat} {sv ev:Value} {root:Int} {bp:Option Addr} {bc:Nat} {zs:List Int} {ss:List (SRec × Value)} {es:List (SCho × Value)} {left l':Int}
set_option maxRecDepth 100000 in
set_option maxHeartbeats 16000000 in
theorem rdval_zeroN (w:World)(h:DCtx base B w rk sv ev root bp bc zs ss es left)(k r l lm:Nat)(at':Int)(room:Nat)(ht:TyM ss.length (es.map Prod.fst) k r l)(hlm:l=lm+1)(hnum:numTB k lm=true)(ha : -1000000000≤at'∧at'≤1000000000)(hj:badJ zs at'=false)(hin:inZ (lenZ zs) (toJ zs at') 4=true)(hn0:leAt zs (toJ zs at').toNat 4=0) :
  Calls Tryd.prog 106 #[.pointer (some ⟨rk,0,none⟩),.agg #[.int .u8 k,.int .i64 r,.int .i64 l],.int .i64 at',.int .i64 room] w (RdPost (listAtZ zs (nextZ (sRecs ss) (es.map Prod.fst) zs room) k r ((l:Int)-1) (toJ zs at') left) w rk sv ev root bp bc zs):=by
 have hs1:sortP k l≠1:=by unfold sortP;rw [if_pos (by omega)];decide
 obtain ⟨hb,hq1,hq2⟩:=two_start w #[.int .u8 k,.int .i64 r,.int .i64 l] #[.int .u64 0,.slice none 0 0,.slice none 0 0,.bool false] 50 36
 have HB:=Lib.hid hb
 have HQ1:=Lib.hid hq1
 have HQ2:=Lib.hid hq2
 have H0:=Lib.hid (h.below hb)
 have HH0:=Lib.hid h
 have HV:=Lib.hid h.rows.rowV
 have HZB:=Lib.hid h.st.bytes.1
 have HRK:Hid (rk<w.heap.size):=Lib.hid (blk_lt h.st.blk)
 have HAT:=Lib.hid ha
 have hk13:=ht.hi
 have HNT:Hid (∀ W,Calls Tryd.prog 38 #[.agg #[.int .u8 k,.int .i64 r,.int .i64 l]] W fun e w'=>e=.returned (.bool false)∧Below W.heap.size W w'):=Lib.hid (fun W=>by
  have h5:=rnumI_any k (by omega) r l W
  rw [num_no hs1] at h5
  exact h5)
 have HJ:=Lib.hid hj
 have HIN:=Lib.hid hin
 have HLE:Hid (lenZ zs≤16384∧0≤left∧left≤lenZ zs):=Lib.hid ⟨h.len,h.hl⟩
 have hld:=leAt_4 zs (toJ zs at').toNat h.st.bytes.1
 have hldO:ldO zs (toJ zs at') 4=leAt zs (toJ zs at').toNat 4:=if_pos hin
 obtain ⟨n,hn⟩:∃ n:Nat,leAt zs (toJ zs at').toNat 4=n:=Int.eq_ofNat_of_zero_le hld.1
 rw [hn] at hld hldO hn0
 have hl1:(l:Int)-1=(lm:Int):=by omega
 have hwl:=IntWalk.i64_in (lm:Int) (by have:=ht.li;omega)
 rw [hl1]
 have hsb:=step_bd k (lm:Int)
 obtain ⟨st,hst⟩:∃ st,stepZ k lm=st:=⟨_,rfl⟩
 rw [hst] at hsb
 have HEQ:=Lib.hid (listAt_eq (nx:=nextZ (sRecs ss) (es.map Prod.fst) zs room) (r:=r) (left:=left) hin hn hst rfl)
 have HNV:=Lib.hid hldO
 have HTY:Hid (TyM ss.length (es.map Prod.fst) k r lm):=Lib.hid ⟨ht.lo,ht.hi,by have:=ht.li;omega,ht.en,ht.st⟩
 obtain ⟨P,hP⟩:∃ P,RdPost (listAtZ zs (nextZ (sRecs ss) (es.map Prod.fst) zs room) k r lm (toJ zs at') left) w rk sv ev root bp bc zs=P:=⟨_,rfl⟩
 rw [hP]
 have HP:=Lib.hid hP.symm
 have hi1:=inZ_iff.1 hin
 obtain ⟨a,hta⟩:∃ a:Nat,toJ zs at'=a:=⟨(toJ zs at').toNat,by omega⟩
 have HTA:=Lib.hid hta
 rw [hta] at HIN HNV
 rw [hta] at HEQ
 have HI1:Hid (a+4≤zs.length∧zs.length≤16384):=Lib.hid (by rw [hta] at hi1;have h2:=h.st.len;unfold lenZ at hi1;omega)
 have hl0:((l:Int)==0)=false:=by simp;omega
 have HN0:=Lib.hid (fun W=>rnumI_any k (by omega) r lm W)
 rw [hnum] at HN0
 have HSZ:=Lib.hid (fun W=>rsize_any k W)
 have hkst:kSize k=st:=by unfold stepZ at hst;rw [hnum,if_pos rfl] at hst;exact hst
 rw [hkst] at HSZ
 have hw8:=IntWalk.i64_in (k:Int) ⟨by omega,by omega⟩
 clear hkst
 have hnn:¬0<(n:Int):=by omega
 have HNR:Hid (n=0):=Lib.hid (by omega)
 have hmul:0≤(n:Int) * st∧(n:Int) * st≤40000000000:=⟨Int.mul_nonneg (by omega) (by omega),by
  have h5:(n:Int) * st≤4294967296 * 8:=Int.mul_le_mul (by omega) (by omega) (by omega) (by omega)
  omega⟩
 have hw1:=IntWalk.i64_in ((n:Int) * st) ⟨by omega,by omega⟩
 have hw2:=IntWalk.i64_in (4+(n:Int) * st) ⟨by omega,by omega⟩
 have HMU:=Lib.hid hmul
 have HSB:=Lib.hid hsb
 clear hb hq1 hq2 h hP hs1 hk13 ha ht hin hj hn hldO hi1 hst hlm hnum hld hmul hsb hn0
 go_enter Tryd.func106,Tryd.ntmps106
 go_upto_region 1 with (fail)
 generalize (w.alloc (.cells #[.int .u8 k,.int .i64 r,.int .i64 l] 50)).alloc (.cells #[.int .u64 0,.slice none 0 0,.slice none 0 0,.bool false] 36)=W0 at *
 obtain ⟨_,c0,c1,c2,c3,c4,c5⟩:=blk6 H0.out.st.blk
 obtain ⟨_,s0,s1,s2,_⟩:=blk3 HQ1.out
 go_wp2_with fail
 refine (HNT.out _).mono ?_
 rintro e W1 ⟨rfl,hb1⟩
 have HB1:=Lib.hid (HB.out.trans (hb1.mono HB.out.size))
 have H1:=Lib.hid (H0.out.below hb1)
 have P1:=Lib.hid (blk_below HQ1.out hb1 (blk_lt HQ1.out))
 have P2:=Lib.hid (blk_below HQ2.out hb1 (blk_lt HQ2.out))
 clear hb1 c0 c1 c2 c3 c4 c5 s0 s1 s2
 go_wp2_with fail
 refine (jump_ctx H1.out at' HAT.out).mono ?_
 rintro e W2 ⟨rfl,hs2,hx2⟩
 have HX2:=Lib.hid (Exw.after HB1.out hx2)
 have S2:=Lib.hid hs2
 have P12:=Lib.hid (blk_exw P1.out hx2 (blk_lt P1.out) (by have:=HRK.out;omega) (by have:=HRK.out;omega))
 have P22:=Lib.hid (blk_exw P2.out hx2 (blk_lt P2.out) (by have:=HRK.out;omega) (by have:=HRK.out;omega))
 have hx2K:=hx2
 clear hs2 hx2
 obtain ⟨_,s0,s1,s2,_⟩:=blk3 P12.out
 have H2:=Lib.hid (H1.out.exw hx2K (by have h5:=S2.out;rw [HJ.out] at h5;exact h5) HLE.out.2)
 clear hx2K
 go_wp2_with fail
 refine (rdnum_any W2 H2.out.st HV.out _ 4 (.inr rfl)).mono ?_
 rintro e W3 ⟨rfl,hs3,hx3⟩
 rw [show (false || !inZ (lenZ zs) (a:Int) ((4:Nat):Int))=false from by rw [Bool.false_or,show inZ (lenZ zs) (a:Int) ((4:Nat):Int)=true from HIN.out];rfl] at hs3
 rw [HNV.out]
 have HX3:=Lib.hid (HX2.out.then hx3)
 have H3:=Lib.hid (H2.out.exw hx3 hs3 HLE.out.2)
 have P13:=Lib.hid (blk_exw P12.out hx3 (blk_lt P12.out) (by have:=HRK.out;omega) (by have:=HRK.out;omega))
 have P23:=Lib.hid (blk_exw P22.out hx3 (blk_lt P22.out) (by have:=HRK.out;omega) (by have:=HRK.out;omega))
 clear hs3 hx3 s0 s1 s2
 obtain ⟨_,c0,c1,c2,c3,c4,c5⟩:=blk6 H3.out.st.blk
 obtain ⟨_,s0,s1,s2,_⟩:=blk3 P13.out
 have hba:Below W3.heap.size W3 (W3.alloc (.cells #[.int .u8 k,.int .i64 r,.int .i64 l] 50)):=(Below.refl _ _).alloc (Nat.le_refl _) _
 have hba5:=hba.setCell (p:=⟨W3.heap.size,2,none⟩) (Nat.le_refl _) (.int .i64 lm)
 have HEN:=Lib.hid (heap_alloc_new W3 (.cells #[.int .u8 k,.int .i64 r,.int .i64 l] 50))
 have HE2:=Lib.hid ((blk_set HEN.out 2 (.int .i64 lm)).trans rfl)
 have H5:=Lib.hid (H3.out.below hba5)
 have HX5:=Lib.hid (HX3.out.bel hba5)
 have P25:=Lib.hid (blk_below P23.out hba5 (blk_lt P23.out))
 have HE1:Hid (w.heap.size+1<W3.heap.size):=Lib.hid (blk_lt P23.out)
 clear hba hba5
 go_upto_region 31 with (fail)
 clear s0 s1 s2 c0 c1 c2 c3 c4 c5
 generalize W3.alloc (.cells #[.int .u8 k,.int .i64 r,.int .i64 l] 50)=W4 at *
 generalize W3.heap.size=E at *
 obtain ⟨_,s0,s1,s2,_⟩:=blk3 HEN.out
 have p2:=blk_frozen HEN.out 2
 go_upto_region 33 with (fail)
 clear s0 s1 s2 p2
 generalize W4.setCell ⟨E,2,none⟩ (.int .i64 lm)=W5 at *
 obtain ⟨_,s0,s1,s2,_⟩:=blk3 HE2.out
 go_wp2_with fail
 refine (HN0.out _).mono ?_
 rintro e W6 ⟨rfl,hb6⟩
 have H6:=Lib.hid (H5.out.below hb6)
 have HX6:=Lib.hid (HX5.out.bel hb6)
 have P26:=Lib.hid (blk_below P25.out hb6 (blk_lt P25.out))
 have HE6:=Lib.hid (blk_below HE2.out hb6 (blk_lt HE2.out))
 have HE9:Hid (E<W6.heap.size):=Lib.hid (blk_lt HE6.out)
 clear hb6 s0 s1 s2
 obtain ⟨_,s0,s1,s2,_⟩:=blk3 HE6.out
 go_wp2_with fail
 refine (HSZ.out _).mono ?_
 rintro e _ ⟨rfl,rfl⟩
 go_wp2_with fail
 refine (reach_ctx H6.out _ (4+(n:Int) * st)).mono ?_
 rintro e W7 ⟨hx7,hr⟩
 have HX7:=Lib.hid (HX6.out.then hx7)
 have P27:=Lib.hid (blk_exw P26.out hx7 (blk_lt P26.out) (by have:=HRK.out;omega) (by have:=HRK.out;omega))
 have HRE:Hid (rk<E):=Lib.hid (by have:=HRK.out;have:=HE1.out;omega)
 have HE7:=Lib.hid (blk_exw HE6.out hx7 (blk_lt HE6.out) (by have:=HRE.out;omega) (by have:=HRE.out;omega))
 clear s0 s1 s2
 rcases hr with ⟨hok,rfl,hs7⟩|⟨hno,rfl,rc,hrc0,hrc1,hs7⟩
 · have hin7:0≤left-(4+(n:Int) * st)∧(a:Int)+4+(n:Int) * st≤lenZ zs:=by
    unfold reachOk at hok
    rw [Bool.and_eq_true,decide_eq_true_eq] at hok
    have h5:=inZ_iff.1 hok.1
    omega
   have HIN7:=Lib.hid hin7
   have H7:=Lib.hid (H6.out.exw hx7 hs7 (by have:=HLE.out;have:=HMU.out;omega))
   have HOK:=Lib.hid hok
   clear hx7 hs7 hok hin7
   have hba:Below W7.heap.size W7 (W7.alloc (.cells #[.int .u64 0,.slice none 0 0,.slice none 0 0,.bool false] 36)):=(Below.refl _ _).alloc (Nat.le_refl _) _
   have HOB:=Lib.hid (heap_alloc_new W7 (.cells #[.int .u64 0,.slice none 0 0,.slice none 0 0,.bool false] 36))
   have HX8:=Lib.hid (HX7.out.bel hba)
   have S8:=Lib.hid (H7.out.st.below hba)
   have P28:=Lib.hid (blk_below P27.out hba (blk_lt P27.out))
   have HE8:=Lib.hid (blk_below HE7.out hba (blk_lt HE7.out))
   have HEO:Hid (E<W7.heap.size):=Lib.hid (blk_lt HE7.out)
   clear hba
   go_upto_region 40 with (fail)
   generalize W7.alloc (.cells #[.int .u64 0,.slice none 0 0,.slice none 0 0,.bool false] 36)=W8 at *
   generalize W7.heap.size=O at *
   have HZR:Hid (listAtZ zs (nextZ (sRecs ss) (es.map Prod.fst) zs room) k r lm a left=some (nilV,left-(4+(n:Int) * st))):=Lib.hid (by
    rw [HEQ.out,if_pos HOK.out]
    have h5:=HNR.out
    generalize left-(4+(n:Int) * st)=left1
    subst h5
    cases nextZ (sRecs ss) (es.map Prod.fst) zs room<;>rfl)
   go_wp2_with fail
   go_loopw [18] (fun x wr=>x=.int .i64 0∧wr=W8) (fun _ _=>0)
   case atStart=>exact ⟨rfl,rfl⟩
   case round =>
    obtain ⟨rfl,rfl⟩:=hrel
    obtain ⟨_,v0,v1,v2,v3⟩:=blk4p HOB.out
    obtain ⟨_,u0,u1,u2,u3⟩:=blk4p P28.out
    have p0:=blk_frozen P28.out 0
    have p1:=blk_frozen P28.out 1
    have p2:=blk_frozen P28.out 2
    have p3:=blk_frozen P28.out 3
    go_wp2
    refine post_gen (fun Wf=>Wf.heap[w.heap.size+1]?=some (.cells #[.int .u64 0,.slice none 0 0,.slice none 0 0,.bool false] 36 (0,0))∧P (.returned (.agg #[.int .u64 0,.slice none 0 0,.slice none 0 0,.bool false])) Wf) ⟨?_,?_⟩ ?_
    · exact blk_set4 P28.out _ _ _ _
    · rw [HP.out]
      have hx4:=((((HX8.out).setCell (p:=⟨w.heap.size+1,0,none⟩) (.inr (.inr (show w.heap.size≤w.heap.size+1 by omega))) (.int .u64 0)).setCell (p:=⟨w.heap.size+1,1,none⟩) (.inr (.inr (show w.heap.size≤w.heap.size+1 by omega))) (.slice none 0 0)).setCell (p:=⟨w.heap.size+1,2,none⟩) (.inr (.inr (show w.heap.size≤w.heap.size+1 by omega))) (.slice none 0 0)).setCell (p:=⟨w.heap.size+1,3,none⟩) (.inr (.inr (show w.heap.size≤w.heap.size+1 by omega))) (.bool false)
      exact ⟨hx4,.inl ⟨nilV,left-(4+(n:Int) * st),_,by rw [HTA.out];exact HZR.out,⟨HIN7.out.1,by have:=HLE.out;have:=HMU.out;omega⟩,rfl,vh_nil _ _,HH0.out.st.keep HV.out hx4 ((set4_blk wr (by have:=HRK.out;omega) _ _ _ _).trans S8.out.blk)⟩⟩
    · rintro Wf ⟨e1,e2⟩
      obtain ⟨_,d0,d1,d2,d3⟩:=blk4p e1
      exact bodyPost_ret (v:=.agg #[.int .u64 0,.slice none 0 0,.slice none 0 0,.bool false]) (by simp [results,Tryd.results106,go_sem,d0,d1,d2,d3]) rfl e2
 · have HNO:=Lib.hid hno
   have HRC:=Lib.hid (And.intro hrc0 hrc1)
   have S7:=Lib.hid hs7
   clear hx7 hs7 hno hrc0 hrc1
   obtain ⟨_,c0,c1,c2,c3,c4,c5⟩:=blk6 S7.out.blk
   have f5:=blk_frozen S7.out.blk 5
   have HS8:=Lib.hid ((blk_set S7.out.blk 5 (.bool true)).trans rfl)
   have HX8:=Lib.hid (HX7.out.setCell (p:=⟨rk,5,none⟩) (.inl rfl) (.bool true))
   have P28:=Lib.hid (blk_set_ne P27.out (p:=⟨rk,5,none⟩) (by have:=HRK.out;show rk≠_;omega) (.bool true))
   go_upto_region 37 with (fail)
   clear c0 c1 c2 c3 c4 c5 f5
   generalize W7.setCell ⟨rk,5,none⟩ (.bool true)=W8 at *
   obtain ⟨_,u0,u1,u2,u3⟩:=blk4p P28.out
   have p0:=blk_frozen P28.out 0
   have p1:=blk_frozen P28.out 1
   have p2:=blk_frozen P28.out 2
   have p3:=blk_frozen P28.out 3
   go_wp2
   refine post_gen (fun Wf=>Wf.heap[w.heap.size+1]?=some (.cells #[.int .u64 0,.slice none 0 0,.slice none 0 0,.bool false] 36 (0,0))∧P (.returned (.agg #[.int .u64 0,.slice none 0 0,.slice none 0 0,.bool false])) Wf) ⟨?_,?_⟩ ?_
   · exact blk_set4 P28.out _ _ _ _
   · rw [HP.out]
     have hx4:=((((HX8.out).setCell (p:=⟨w.heap.size+1,0,none⟩) (.inr (.inr (show w.heap.size≤w.heap.size+1 by omega))) (.int .u64 0)).setCell (p:=⟨w.heap.size+1,1,none⟩) (.inr (.inr (show w.heap.size≤w.heap.size+1 by omega))) (.slice none 0 0)).setCell (p:=⟨w.heap.size+1,2,none⟩) (.inr (.inr (show w.heap.size≤w.heap.size+1 by omega))) (.slice none 0 0)).setCell (p:=⟨w.heap.size+1,3,none⟩) (.inr (.inr (show w.heap.size≤w.heap.size+1 by omega))) (.bool false)
     exact rdpost_bad (by rw [HTA.out,HEQ.out,if_neg (by rw [HNO.out];decide)]) hx4 (vform _ _ _ _ _ _ _ _) HRC.out.1 HRC.out.2 (HH0.out.st.keep HV.out hx4 ((set4_blk W8 (by have:=HRK.out;omega) _ _ _ _).trans HS8.out))
   · rintro Wf ⟨e1,e2⟩
     obtain ⟨_,d0,d1,d2,d3⟩:=blk4p e1
     exact bodyPost_ret (v:=.agg #[.int .u64 0,.slice none 0 0,.slice none 0 0,.bool false]) (by simp [results,Tryd.results106,go_sem,d0,d1,d2,d3]) rfl e2
set_option maxRecDepth 100000 in
set_option maxHeartbeats 16000000 in
theorem rdval_zeroO (w:World)(h:DCtx base B w rk sv ev root bp bc zs ss es left)(k r l lm:Nat)(at':Int)(room:Nat)(ht:TyM ss.length (es.map Prod.fst) k r l)(hlm:l=lm+1)(hnum:numTB k lm=false)(ha : -1000000000≤at'∧at'≤1000000000)(hj:badJ zs at'=false)(hin:inZ (lenZ zs) (toJ zs at') 4=true)(hn0:leAt zs (toJ zs at').toNat 4=0) :
  Calls Tryd.prog 106 #[.pointer (some ⟨rk,0,none⟩),.agg #[.int .u8 k,.int .i64 r,.int .i64 l],.int .i64 at',.int .i64 room] w (RdPost (listAtZ zs (nextZ (sRecs ss) (es.map Prod.fst) zs room) k r ((l:Int)-1) (toJ zs at') left) w rk sv ev root bp bc zs):=by
 have hs1:sortP k l≠1:=by unfold sortP;rw [if_pos (by omega)];decide
 obtain ⟨hb,hq1,hq2⟩:=two_start w #[.int .u8 k,.int .i64 r,.int .i64 l] #[.int .u64 0,.slice none 0 0,.slice none 0 0,.bool false] 50 36
 have HB:=Lib.hid hb
 have HQ1:=Lib.hid hq1
 have HQ2:=Lib.hid hq2
 have H0:=Lib.hid (h.below hb)
 have HH0:=Lib.hid h
 have HV:=Lib.hid h.rows.rowV
 have HZB:=Lib.hid h.st.bytes.1
 have HRK:Hid (rk<w.heap.size):=Lib.hid (blk_lt h.st.blk)
 have HAT:=Lib.hid ha
 have hk13:=ht.hi
 have HNT:Hid (∀ W,Calls Tryd.prog 38 #[.agg #[.int .u8 k,.int .i64 r,.int .i64 l]] W fun e w'=>e=.returned (.bool false)∧Below W.heap.size W w'):=Lib.hid (fun W=>by
  have h5:=rnumI_any k (by omega) r l W
  rw [num_no hs1] at h5
  exact h5)
 have HJ:=Lib.hid hj
 have HIN:=Lib.hid hin
 have HLE:Hid (lenZ zs≤16384∧0≤left∧left≤lenZ zs):=Lib.hid ⟨h.len,h.hl⟩
 have hld:=leAt_4 zs (toJ zs at').toNat h.st.bytes.1
 have hldO:ldO zs (toJ zs at') 4=leAt zs (toJ zs at').toNat 4:=if_pos hin
 obtain ⟨n,hn⟩:∃ n:Nat,leAt zs (toJ zs at').toNat 4=n:=Int.eq_ofNat_of_zero_le hld.1
 rw [hn] at hld hldO hn0
 have hl1:(l:Int)-1=(lm:Int):=by omega
 have hwl:=IntWalk.i64_in (lm:Int) (by have:=ht.li;omega)
 rw [hl1]
 have hsb:=step_bd k (lm:Int)
 obtain ⟨st,hst⟩:∃ st,stepZ k lm=st:=⟨_,rfl⟩
 rw [hst] at hsb
 have HEQ:=Lib.hid (listAt_eq (nx:=nextZ (sRecs ss) (es.map Prod.fst) zs room) (r:=r) (left:=left) hin hn hst rfl)
 have HNV:=Lib.hid hldO
 have HTY:Hid (TyM ss.length (es.map Prod.fst) k r lm):=Lib.hid ⟨ht.lo,ht.hi,by have:=ht.li;omega,ht.en,ht.st⟩
 obtain ⟨P,hP⟩:∃ P,RdPost (listAtZ zs (nextZ (sRecs ss) (es.map Prod.fst) zs room) k r lm (toJ zs at') left) w rk sv ev root bp bc zs=P:=⟨_,rfl⟩
 rw [hP]
 have HP:=Lib.hid hP.symm
 have hi1:=inZ_iff.1 hin
 obtain ⟨a,hta⟩:∃ a:Nat,toJ zs at'=a:=⟨(toJ zs at').toNat,by omega⟩
 have HTA:=Lib.hid hta
 rw [hta] at HIN HNV
 rw [hta] at HEQ
 have HI1:Hid (a+4≤zs.length∧zs.length≤16384):=Lib.hid (by rw [hta] at hi1;have h2:=h.st.len;unfold lenZ at hi1;omega)
 have hl0:((l:Int)==0)=false:=by simp;omega
 have HN0:=Lib.hid (fun W=>rnumI_any k (by omega) r lm W)
 rw [hnum] at HN0
 obtain rfl:st=4:=by unfold stepZ at hst;rw [hnum,if_neg (by decide)] at hst;omega
 have hnn:¬0<(n:Int):=by omega
 have HNR:Hid (n=0):=Lib.hid (by omega)
 have hmul:0≤(n:Int) * 4∧(n:Int) * 4≤40000000000:=⟨Int.mul_nonneg (by omega) (by omega),by
  have h5:(n:Int) * 4≤4294967296 * 8:=Int.mul_le_mul (by omega) (by omega) (by omega) (by omega)
  omega⟩
 have hw1:=IntWalk.i64_in ((n:Int) * 4) ⟨by omega,by omega⟩
 have hw2:=IntWalk.i64_in (4+(n:Int) * 4) ⟨by omega,by omega⟩
 have HMU:=Lib.hid hmul
 have HSB:=Lib.hid hsb
 clear hb hq1 hq2 h hP hs1 hk13 ha ht hin hj hn hldO hi1 hst hlm hnum hld hmul hsb hn0
 go_enter Tryd.func106,Tryd.ntmps106
 go_upto_region 1 with (fail)
 generalize (w.alloc (.cells #[.int .u8 k,.int .i64 r,.int .i64 l] 50)).alloc (.cells #[.int .u64 0,.slice none 0 0,.slice none 0 0,.bool false] 36)=W0 at *
 obtain ⟨_,c0,c1,c2,c3,c4,c5⟩:=blk6 H0.out.st.blk
 obtain ⟨_,s0,s1,s2,_⟩:=blk3 HQ1.out
 go_wp2_with fail
 refine (HNT.out _).mono ?_
 rintro e W1 ⟨rfl,hb1⟩
 have HB1:=Lib.hid (HB.out.trans (hb1.mono HB.out.size))
 have H1:=Lib.hid (H0.out.below hb1)
 have P1:=Lib.hid (blk_below HQ1.out hb1 (blk_lt HQ1.out))
 have P2:=Lib.hid (blk_below HQ2.out hb1 (blk_lt HQ2.out))
 clear hb1 c0 c1 c2 c3 c4 c5 s0 s1 s2
 go_wp2_with fail
 refine (jump_ctx H1.out at' HAT.out).mono ?_
 rintro e W2 ⟨rfl,hs2,hx2⟩
 have HX2:=Lib.hid (Exw.after HB1.out hx2)
 have S2:=Lib.hid hs2
 have P12:=Lib.hid (blk_exw P1.out hx2 (blk_lt P1.out) (by have:=HRK.out;omega) (by have:=HRK.out;omega))
 have P22:=Lib.hid (blk_exw P2.out hx2 (blk_lt P2.out) (by have:=HRK.out;omega) (by have:=HRK.out;omega))
 have hx2K:=hx2
 clear hs2 hx2
 obtain ⟨_,s0,s1,s2,_⟩:=blk3 P12.out
 have H2:=Lib.hid (H1.out.exw hx2K (by have h5:=S2.out;rw [HJ.out] at h5;exact h5) HLE.out.2)
 clear hx2K
 go_wp2_with fail
 refine (rdnum_any W2 H2.out.st HV.out _ 4 (.inr rfl)).mono ?_
 rintro e W3 ⟨rfl,hs3,hx3⟩
 rw [show (false || !inZ (lenZ zs) (a:Int) ((4:Nat):Int))=false from by rw [Bool.false_or,show inZ (lenZ zs) (a:Int) ((4:Nat):Int)=true from HIN.out];rfl] at hs3
 rw [HNV.out]
 have HX3:=Lib.hid (HX2.out.then hx3)
 have H3:=Lib.hid (H2.out.exw hx3 hs3 HLE.out.2)
 have P13:=Lib.hid (blk_exw P12.out hx3 (blk_lt P12.out) (by have:=HRK.out;omega) (by have:=HRK.out;omega))
 have P23:=Lib.hid (blk_exw P22.out hx3 (blk_lt P22.out) (by have:=HRK.out;omega) (by have:=HRK.out;omega))
 clear hs3 hx3 s0 s1 s2
 obtain ⟨_,c0,c1,c2,c3,c4,c5⟩:=blk6 H3.out.st.blk
 obtain ⟨_,s0,s1,s2,_⟩:=blk3 P13.out
 have hba:Below W3.heap.size W3 (W3.alloc (.cells #[.int .u8 k,.int .i64 r,.int .i64 l] 50)):=(Below.refl _ _).alloc (Nat.le_refl _) _
 have hba5:=hba.setCell (p:=⟨W3.heap.size,2,none⟩) (Nat.le_refl _) (.int .i64 lm)
 have HEN:=Lib.hid (heap_alloc_new W3 (.cells #[.int .u8 k,.int .i64 r,.int .i64 l] 50))
 have HE2:=Lib.hid ((blk_set HEN.out 2 (.int .i64 lm)).trans rfl)
 have H5:=Lib.hid (H3.out.below hba5)
 have HX5:=Lib.hid (HX3.out.bel hba5)
 have P25:=Lib.hid (blk_below P23.out hba5 (blk_lt P23.out))
 have HE1:Hid (w.heap.size+1<W3.heap.size):=Lib.hid (blk_lt P23.out)
 clear hba hba5
 go_upto_region 31 with (fail)
 clear s0 s1 s2 c0 c1 c2 c3 c4 c5
 generalize W3.alloc (.cells #[.int .u8 k,.int .i64 r,.int .i64 l] 50)=W4 at *
 generalize W3.heap.size=E at *
 obtain ⟨_,s0,s1,s2,_⟩:=blk3 HEN.out
 have p2:=blk_frozen HEN.out 2
 go_upto_region 33 with (fail)
 clear s0 s1 s2 p2
 generalize W4.setCell ⟨E,2,none⟩ (.int .i64 lm)=W5 at *
 obtain ⟨_,s0,s1,s2,_⟩:=blk3 HE2.out
 go_wp2_with fail
 refine (HN0.out _).mono ?_
 rintro e W6 ⟨rfl,hb6⟩
 have H6:=Lib.hid (H5.out.below hb6)
 have HX6:=Lib.hid (HX5.out.bel hb6)
 have P26:=Lib.hid (blk_below P25.out hb6 (blk_lt P25.out))
 have HE6:=Lib.hid (blk_below HE2.out hb6 (blk_lt HE2.out))
 have HE9:Hid (E<W6.heap.size):=Lib.hid (blk_lt HE6.out)
 clear hb6 s0 s1 s2
 obtain ⟨_,s0,s1,s2,_⟩:=blk3 HE6.out
 go_wp2_with fail
 refine (reach_ctx H6.out _ (4+(n:Int) * 4)).mono ?_
 rintro e W7 ⟨hx7,hr⟩
 have HX7:=Lib.hid (HX6.out.then hx7)
 have P27:=Lib.hid (blk_exw P26.out hx7 (blk_lt P26.out) (by have:=HRK.out;omega) (by have:=HRK.out;omega))
 have HRE:Hid (rk<E):=Lib.hid (by have:=HRK.out;have:=HE1.out;omega)
 have HE7:=Lib.hid (blk_exw HE6.out hx7 (blk_lt HE6.out) (by have:=HRE.out;omega) (by have:=HRE.out;omega))
 clear s0 s1 s2
 rcases hr with ⟨hok,rfl,hs7⟩|⟨hno,rfl,rc,hrc0,hrc1,hs7⟩
 · have hin7:0≤left-(4+(n:Int) * 4)∧(a:Int)+4+(n:Int) * 4≤lenZ zs:=by
    unfold reachOk at hok
    rw [Bool.and_eq_true,decide_eq_true_eq] at hok
    have h5:=inZ_iff.1 hok.1
    omega
   have HIN7:=Lib.hid hin7
   have H7:=Lib.hid (H6.out.exw hx7 hs7 (by have:=HLE.out;have:=HMU.out;omega))
   have HOK:=Lib.hid hok
   clear hx7 hs7 hok hin7
   have hba:Below W7.heap.size W7 (W7.alloc (.cells #[.int .u64 0,.slice none 0 0,.slice none 0 0,.bool false] 36)):=(Below.refl _ _).alloc (Nat.le_refl _) _
   have HOB:=Lib.hid (heap_alloc_new W7 (.cells #[.int .u64 0,.slice none 0 0,.slice none 0 0,.bool false] 36))
   have HX8:=Lib.hid (HX7.out.bel hba)
   have S8:=Lib.hid (H7.out.st.below hba)
   have P28:=Lib.hid (blk_below P27.out hba (blk_lt P27.out))
   have HE8:=Lib.hid (blk_below HE7.out hba (blk_lt HE7.out))
   have HEO:Hid (E<W7.heap.size):=Lib.hid (blk_lt HE7.out)
   clear hba
   go_upto_region 40 with (fail)
   generalize W7.alloc (.cells #[.int .u64 0,.slice none 0 0,.slice none 0 0,.bool false] 36)=W8 at *
   generalize W7.heap.size=O at *
   have HZR:Hid (listAtZ zs (nextZ (sRecs ss) (es.map Prod.fst) zs room) k r lm a left=some (nilV,left-(4+(n:Int) * 4))):=Lib.hid (by
    rw [HEQ.out,if_pos HOK.out]
    have h5:=HNR.out
    generalize left-(4+(n:Int) * 4)=left1
    subst h5
    cases nextZ (sRecs ss) (es.map Prod.fst) zs room<;>rfl)
   go_wp2_with fail
   go_loopw [18] (fun x wr=>x=.int .i64 0∧wr=W8) (fun _ _=>0)
   case atStart=>exact ⟨rfl,rfl⟩
   case round =>
    obtain ⟨rfl,rfl⟩:=hrel
    obtain ⟨_,v0,v1,v2,v3⟩:=blk4p HOB.out
    obtain ⟨_,u0,u1,u2,u3⟩:=blk4p P28.out
    have p0:=blk_frozen P28.out 0
    have p1:=blk_frozen P28.out 1
    have p2:=blk_frozen P28.out 2
    have p3:=blk_frozen P28.out 3
    go_wp2
    refine post_gen (fun Wf=>Wf.heap[w.heap.size+1]?=some (.cells #[.int .u64 0,.slice none 0 0,.slice none 0 0,.bool false] 36 (0,0))∧P (.returned (.agg #[.int .u64 0,.slice none 0 0,.slice none 0 0,.bool false])) Wf) ⟨?_,?_⟩ ?_
    · exact blk_set4 P28.out _ _ _ _
    · rw [HP.out]
      have hx4:=((((HX8.out).setCell (p:=⟨w.heap.size+1,0,none⟩) (.inr (.inr (show w.heap.size≤w.heap.size+1 by omega))) (.int .u64 0)).setCell (p:=⟨w.heap.size+1,1,none⟩) (.inr (.inr (show w.heap.size≤w.heap.size+1 by omega))) (.slice none 0 0)).setCell (p:=⟨w.heap.size+1,2,none⟩) (.inr (.inr (show w.heap.size≤w.heap.size+1 by omega))) (.slice none 0 0)).setCell (p:=⟨w.heap.size+1,3,none⟩) (.inr (.inr (show w.heap.size≤w.heap.size+1 by omega))) (.bool false)
      exact ⟨hx4,.inl ⟨nilV,left-(4+(n:Int) * 4),_,by rw [HTA.out];exact HZR.out,⟨HIN7.out.1,by have:=HLE.out;have:=HMU.out;omega⟩,rfl,vh_nil _ _,HH0.out.st.keep HV.out hx4 ((set4_blk wr (by have:=HRK.out;omega) _ _ _ _).trans S8.out.blk)⟩⟩
    · rintro Wf ⟨e1,e2⟩
      obtain ⟨_,d0,d1,d2,d3⟩:=blk4p e1
      exact bodyPost_ret (v:=.agg #[.int .u64 0,.slice none 0 0,.slice none 0 0,.bool false]) (by simp [results,Tryd.results106,go_sem,d0,d1,d2,d3]) rfl e2
 · have HNO:=Lib.hid hno
   have HRC:=Lib.hid (And.intro hrc0 hrc1)
   have S7:=Lib.hid hs7
   clear hx7 hs7 hno hrc0 hrc1
   obtain ⟨_,c0,c1,c2,c3,c4,c5⟩:=blk6 S7.out.blk
   have f5:=blk_frozen S7.out.blk 5
   have HS8:=Lib.hid ((blk_set S7.out.blk 5 (.bool true)).trans rfl)
   have HX8:=Lib.hid (HX7.out.setCell (p:=⟨rk,5,none⟩) (.inl rfl) (.bool true))
   have P28:=Lib.hid (blk_set_ne P27.out (p:=⟨rk,5,none⟩) (by have:=HRK.out;show rk≠_;omega) (.bool true))
   go_upto_region 37 with (fail)
   clear c0 c1 c2 c3 c4 c5 f5
   generalize W7.setCell ⟨rk,5,none⟩ (.bool true)=W8 at *
   obtain ⟨_,u0,u1,u2,u3⟩:=blk4p P28.out
   have p0:=blk_frozen P28.out 0
   have p1:=blk_frozen P28.out 1
   have p2:=blk_frozen P28.out 2
   have p3:=blk_frozen P28.out 3
   go_wp2
   refine post_gen (fun Wf=>Wf.heap[w.heap.size+1]?=some (.cells #[.int .u64 0,.slice none 0 0,.slice none 0 0,.bool false] 36 (0,0))∧P (.returned (.agg #[.int .u64 0,.slice none 0 0,.slice none 0 0,.bool false])) Wf) ⟨?_,?_⟩ ?_
   · exact blk_set4 P28.out _ _ _ _
   · rw [HP.out]
     have hx4:=((((HX8.out).setCell (p:=⟨w.heap.size+1,0,none⟩) (.inr (.inr (show w.heap.size≤w.heap.size+1 by omega))) (.int .u64 0)).setCell (p:=⟨w.heap.size+1,1,none⟩) (.inr (.inr (show w.heap.size≤w.heap.size+1 by omega))) (.slice none 0 0)).setCell (p:=⟨w.heap.size+1,2,none⟩) (.inr (.inr (show w.heap.size≤w.heap.size+1 by omega))) (.slice none 0 0)).setCell (p:=⟨w.heap.size+1,3,none⟩) (.inr (.inr (show w.heap.size≤w.heap.size+1 by omega))) (.bool false)
     exact rdpost_bad (by rw [HTA.out,HEQ.out,if_neg (by rw [HNO.out];decide)]) hx4 (vform _ _ _ _ _ _ _ _) HRC.out.1 HRC.out.2 (HH0.out.st.keep HV.out hx4 ((set4_blk W8 (by have:=HRK.out;omega) _ _ _ _).trans HS8.out))
   · rintro Wf ⟨e1,e2⟩
     obtain ⟨_,d0,d1,d2,d3⟩:=blk4p e1
     exact bodyPost_ret (v:=.agg #[.int .u64 0,.slice none 0 0,.slice none 0 0,.bool false]) (by simp [results,Tryd.results106,go_sem,d0,d1,d2,d3]) rfl e2
end Go.Proofs.YtcfjjocmiheiaaaDoor
