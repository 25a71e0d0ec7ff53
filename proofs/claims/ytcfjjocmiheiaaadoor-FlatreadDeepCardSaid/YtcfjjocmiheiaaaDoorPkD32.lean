/-
  The document's own reading of tables: a list of what isn't a number that isn't empty. Conditions: those that each theorem names.
-/
import Derived.Test.YtcfjjocmiheiaaaDoorPkD52
import Derived.Test.YtcfjjocmiheiaaaDoorPkD29
namespace Go.Proofs.YtcfjjocmiheiaaaDoor
open Go.ChangeShapes Go.WideShapes Go.ChangeAt Go.RowKit Go.Shelf
variable {base B:Nat} {W W':World} {rk:Nat} {sv ev:Value} {root:Int} {bp:Option Addr} {bc:Nat} {zs:List Int} {ss:List (SRec × Value)} {es:List (SCho × Value)} {left l':Int}
set_option maxRecDepth 100000 in
set_option maxHeartbeats 16000000 in
theorem rdval_listO (w:World)(h:DCtx base B w rk sv ev root bp bc zs ss es left)(k r l lm:Nat)(at':Int)(room q:Nat)(hq:room=q+1)(hV:RdValAt q)(ht:TyM ss.length (es.map Prod.fst) k r l)(hlm:l=lm+1)(hnum:numTB k lm=false)(ha : -1000000000≤at'∧at'≤1000000000)(hj:badJ zs at'=false)(hin:inZ (lenZ zs) (toJ zs at') 4=true)(hpos:0<leAt zs (toJ zs at').toNat 4)(hr12:room≤100) :
  Calls Tryd.prog 106 #[.pointer (some ⟨rk,0,none⟩),.agg #[.int .u8 k,.int .i64 r,.int .i64 l],.int .i64 at',.int .i64 room] w (RdPost (listAtZ zs (nextZ (sRecs ss) (es.map Prod.fst) zs room) k r ((l:Int)-1) (toJ zs at') left) w rk sv ev root bp bc zs):=by
 have hs1:sortP k l≠1:=by unfold sortP;rw [if_pos (by omega)];decide
 obtain ⟨hb,hq1,hq2⟩:=two_start w #[.int .u8 k,.int .i64 r,.int .i64 l] #[.int .u64 0,.slice none 0 0,.slice none 0 0,.bool false] 50 36
 have HB:=Lib.hid hb
 have HQ1:=Lib.hid hq1
 have HQ2:=Lib.hid hq2
 have H0:=Lib.hid (h.below hb)
 have HH0:=Lib.hid h
 have HV:=Lib.hid h.rows.rowV
 have HZB:=Lib.hid h.st.bytes.1
 have HRK:Hid (rk<w.heap.size):=Lib.hid (blk_lt h.st.blk)
 have HAT:=Lib.hid ha
 have hk13:=ht.hi
 have HNT:Hid (∀ W,Calls Tryd.prog 38 #[.agg #[.int .u8 k,.int .i64 r,.int .i64 l]] W fun e w'=>e=.returned (.bool false)∧Below W.heap.size W w'):=Lib.hid (fun W=>by
  have h5:=rnumI_any k (by omega) r l W
  rw [num_no hs1] at h5
  exact h5)
 have HJ:=Lib.hid hj
 have HIN:=Lib.hid hin
 have HLE:Hid (lenZ zs≤16384∧0≤left∧left≤lenZ zs):=Lib.hid ⟨h.len,h.hl⟩
 have hld:=leAt_4 zs (toJ zs at').toNat h.st.bytes.1
 have hldO:ldO zs (toJ zs at') 4=leAt zs (toJ zs at').toNat 4:=if_pos hin
 obtain ⟨n,hn⟩:∃ n:Nat,leAt zs (toJ zs at').toNat 4=n:=Int.eq_ofNat_of_zero_le hld.1
 rw [hn] at hld hldO hpos
 have hl1:(l:Int)-1=(lm:Int):=by omega
 have hwl:=IntWalk.i64_in (lm:Int) (by have:=ht.li;omega)
 have hnx:nextZ (sRecs ss) (es.map Prod.fst) zs room=some (flatZ (sRecs ss) (es.map Prod.fst) zs q):=by rw [hq];rfl
 rw [hl1,hnx]
 have hsb:=step_bd k (lm:Int)
 obtain ⟨st,hst⟩:∃ st,stepZ k lm=st:=⟨_,rfl⟩
 rw [hst] at hsb
 have HEQ:=Lib.hid (listAt_eq (nx:=some (flatZ (sRecs ss) (es.map Prod.fst) zs q)) (r:=r) (left:=left) hin hn hst rfl)
 have HNV:=Lib.hid hldO
 have HVL:=Lib.hid hV
 have HTY:Hid (TyM ss.length (es.map Prod.fst) k r lm):=Lib.hid ⟨ht.lo,ht.hi,by have:=ht.li;omega,ht.en,ht.st⟩
 obtain ⟨P,hP⟩:∃ P,RdPost (listAtZ zs (some (flatZ (sRecs ss) (es.map Prod.fst) zs q)) k r lm (toJ zs at') left) w rk sv ev root bp bc zs=P:=⟨_,rfl⟩
 rw [hP]
 have HP:=Lib.hid hP.symm
 have hi1:=inZ_iff.1 hin
 obtain ⟨a,hta⟩:∃ a:Nat,toJ zs at'=a:=⟨(toJ zs at').toNat,by omega⟩
 have HTA:=Lib.hid hta
 rw [hta] at HIN HNV
 rw [hta] at HEQ
 have HI1:Hid (a+4≤zs.length∧zs.length≤16384):=Lib.hid (by rw [hta] at hi1;have h2:=h.st.len;unfold lenZ at hi1;omega)
 have hl0:((l:Int)==0)=false:=by simp;omega
 have HN0:=Lib.hid (fun W=>rnumI_any k (by omega) r lm W)
 rw [hnum] at HN0
 obtain rfl:st=4:=by unfold stepZ at hst;rw [hnum,if_neg (by decide)] at hst;omega
 have hrw:(room:Int)-1=(q:Int):=by omega
 have hrw2:IntKind.i64.wrap (q:Int)=q:=IntWalk.i64_in _ (by omega)
 have hroom:¬(room:Int)<1:=by omega
 have HNR:Hid (room=q+1∧0<n∧(n:Int)<4294967296):=Lib.hid ⟨hq,by omega,hld.2⟩
 have hmul:0≤(n:Int) * 4∧(n:Int) * 4≤40000000000:=⟨Int.mul_nonneg (by omega) (by omega),by
  have h5:(n:Int) * 4≤4294967296 * 8:=Int.mul_le_mul (by omega) (by omega) (by omega) (by omega)
  omega⟩
 have hw1:=IntWalk.i64_in ((n:Int) * 4) ⟨by omega,by omega⟩
 have hw2:=IntWalk.i64_in (4+(n:Int) * 4) ⟨by omega,by omega⟩
 have HMU:=Lib.hid hmul
 have HNB:Hid ((n:Int)≤(n:Int) * 4):=Lib.hid (by have h5:=Int.mul_le_mul_of_nonneg_left (show (1:Int)≤4 by omega) (show 0≤(n:Int) by omega);rw [Int.mul_one] at h5;exact h5)
 have HSB:=Lib.hid hsb
 clear hb hq1 hq2 h hP hs1 hk13 ha ht hin hj hn hldO hi1 hst hlm hV hq hnum hld hmul hsb hnx
 go_enter Tryd.func106,Tryd.ntmps106
 go_upto_region 1 with (fail)
 generalize (w.alloc (.cells #[.int .u8 k,.int .i64 r,.int .i64 l] 50)).alloc (.cells #[.int .u64 0,.slice none 0 0,.slice none 0 0,.bool false] 36)=W0 at *
 obtain ⟨_,c0,c1,c2,c3,c4,c5⟩:=blk6 H0.out.st.blk
 obtain ⟨_,s0,s1,s2,_⟩:=blk3 HQ1.out
 go_wp2_with fail
 refine (HNT.out _).mono ?_
 rintro e W1 ⟨rfl,hb1⟩
 have HB1:=Lib.hid (HB.out.trans (hb1.mono HB.out.size))
 have H1:=Lib.hid (H0.out.below hb1)
 have P1:=Lib.hid (blk_below HQ1.out hb1 (blk_lt HQ1.out))
 have P2:=Lib.hid (blk_below HQ2.out hb1 (blk_lt HQ2.out))
 clear hb1 c0 c1 c2 c3 c4 c5 s0 s1 s2
 go_wp2_with fail
 refine (jump_ctx H1.out at' HAT.out).mono ?_
 rintro e W2 ⟨rfl,hs2,hx2⟩
 have HX2:=Lib.hid (Exw.after HB1.out hx2)
 have S2:=Lib.hid hs2
 have P12:=Lib.hid (blk_exw P1.out hx2 (blk_lt P1.out) (by have:=HRK.out;omega) (by have:=HRK.out;omega))
 have P22:=Lib.hid (blk_exw P2.out hx2 (blk_lt P2.out) (by have:=HRK.out;omega) (by have:=HRK.out;omega))
 have hx2K:=hx2
 clear hs2 hx2
 obtain ⟨_,s0,s1,s2,_⟩:=blk3 P12.out
 have H2:=Lib.hid (H1.out.exw hx2K (by have h5:=S2.out;rw [HJ.out] at h5;exact h5) HLE.out.2)
 clear hx2K
 go_wp2_with fail
 refine (rdnum_any W2 H2.out.st HV.out _ 4 (.inr rfl)).mono ?_
 rintro e W3 ⟨rfl,hs3,hx3⟩
 rw [show (false || !inZ (lenZ zs) (a:Int) ((4:Nat):Int))=false from by rw [Bool.false_or,show inZ (lenZ zs) (a:Int) ((4:Nat):Int)=true from HIN.out];rfl] at hs3
 rw [HNV.out]
 have HX3:=Lib.hid (HX2.out.then hx3)
 have H3:=Lib.hid (H2.out.exw hx3 hs3 HLE.out.2)
 have P13:=Lib.hid (blk_exw P12.out hx3 (blk_lt P12.out) (by have:=HRK.out;omega) (by have:=HRK.out;omega))
 have P23:=Lib.hid (blk_exw P22.out hx3 (blk_lt P22.out) (by have:=HRK.out;omega) (by have:=HRK.out;omega))
 clear hs3 hx3 s0 s1 s2
 obtain ⟨_,c0,c1,c2,c3,c4,c5⟩:=blk6 H3.out.st.blk
 obtain ⟨_,s0,s1,s2,_⟩:=blk3 P13.out
 have hba:Below W3.heap.size W3 (W3.alloc (.cells #[.int .u8 k,.int .i64 r,.int .i64 l] 50)):=(Below.refl _ _).alloc (Nat.le_refl _) _
 have hba5:=hba.setCell (p:=⟨W3.heap.size,2,none⟩) (Nat.le_refl _) (.int .i64 lm)
 have HEN:=Lib.hid (heap_alloc_new W3 (.cells #[.int .u8 k,.int .i64 r,.int .i64 l] 50))
 have HE2:=Lib.hid ((blk_set HEN.out 2 (.int .i64 lm)).trans rfl)
 have H5:=Lib.hid (H3.out.below hba5)
 have HX5:=Lib.hid (HX3.out.bel hba5)
 have P25:=Lib.hid (blk_below P23.out hba5 (blk_lt P23.out))
 have HE1:Hid (w.heap.size+1<W3.heap.size):=Lib.hid (blk_lt P23.out)
 clear hba hba5
 go_upto_region 31 with (fail)
 clear s0 s1 s2 c0 c1 c2 c3 c4 c5
 generalize W3.alloc (.cells #[.int .u8 k,.int .i64 r,.int .i64 l] 50)=W4 at *
 generalize W3.heap.size=E at *
 obtain ⟨_,s0,s1,s2,_⟩:=blk3 HEN.out
 have p2:=blk_frozen HEN.out 2
 go_upto_region 33 with (fail)
 clear s0 s1 s2 p2
 generalize W4.setCell ⟨E,2,none⟩ (.int .i64 lm)=W5 at *
 obtain ⟨_,s0,s1,s2,_⟩:=blk3 HE2.out
 go_wp2_with fail
 refine (HN0.out _).mono ?_
 rintro e W6 ⟨rfl,hb6⟩
 have H6:=Lib.hid (H5.out.below hb6)
 have HX6:=Lib.hid (HX5.out.bel hb6)
 have P26:=Lib.hid (blk_below P25.out hb6 (blk_lt P25.out))
 have HE6:=Lib.hid (blk_below HE2.out hb6 (blk_lt HE2.out))
 have HE9:Hid (E<W6.heap.size):=Lib.hid (blk_lt HE6.out)
 clear hb6 s0 s1 s2
 obtain ⟨_,s0,s1,s2,_⟩:=blk3 HE6.out
 go_wp2_with fail
 refine (reach_ctx H6.out _ (4+(n:Int) * 4)).mono ?_
 rintro e W7 ⟨hx7,hr⟩
 have HX7:=Lib.hid (HX6.out.then hx7)
 have P27:=Lib.hid (blk_exw P26.out hx7 (blk_lt P26.out) (by have:=HRK.out;omega) (by have:=HRK.out;omega))
 have HRE:Hid (rk<E):=Lib.hid (by have:=HRK.out;have:=HE1.out;omega)
 have HE7:=Lib.hid (blk_exw HE6.out hx7 (blk_lt HE6.out) (by have:=HRE.out;omega) (by have:=HRE.out;omega))
 clear s0 s1 s2
 rcases hr with ⟨hok,rfl,hs7⟩|⟨hno,rfl,rc,hrc0,hrc1,hs7⟩
 · have hin7:0≤left-(4+(n:Int) * 4)∧(a:Int)+4+(n:Int) * 4≤lenZ zs:=by
    unfold reachOk at hok
    rw [Bool.and_eq_true,decide_eq_true_eq] at hok
    have h5:=inZ_iff.1 hok.1
    omega
   have HIN7:=Lib.hid hin7
   have H7:=Lib.hid (H6.out.exw hx7 hs7 (by have:=HLE.out;have:=HMU.out;omega))
   have HOK:=Lib.hid hok
   clear hx7 hs7 hok hin7
   have hba:Below W7.heap.size W7 (W7.alloc (.cells #[.int .u64 0,.slice none 0 0,.slice none 0 0,.bool false] 36)):=(Below.refl _ _).alloc (Nat.le_refl _) _
   have HOB:=Lib.hid (heap_alloc_new W7 (.cells #[.int .u64 0,.slice none 0 0,.slice none 0 0,.bool false] 36))
   have HX8:=Lib.hid (HX7.out.bel hba)
   have S8:=Lib.hid (H7.out.st.below hba)
   have P28:=Lib.hid (blk_below P27.out hba (blk_lt P27.out))
   have HE8:=Lib.hid (blk_below HE7.out hba (blk_lt HE7.out))
   have HEO:Hid (E<W7.heap.size):=Lib.hid (blk_lt HE7.out)
   clear hba
   go_upto_region 40 with (fail)
   generalize W7.alloc (.cells #[.int .u64 0,.slice none 0 0,.slice none 0 0,.bool false] 36)=W8 at *
   generalize W7.heap.size=O at *
   obtain ⟨g,hg⟩:∃ g,(fun (j:Nat) (l:Int)=>flatZ (sRecs ss) (es.map Prod.fst) zs q k r lm ((a:Int)+4+(j:Int) * 4) l)=g:=⟨_,rfl⟩
   have HG:Hid (∀ (j:Nat) (l:Int),g j l=flatZ (sRecs ss) (es.map Prod.fst) zs q k r lm ((a:Int)+4+(j:Int) * 4) l):=Lib.hid (fun j l=>by rw [←hg])
   have HEQ2:Hid (listAtZ zs (some (flatZ (sRecs ss) (es.map Prod.fst) zs q)) k r lm a left=match seqD g (left-(4+(n:Int) * 4)) n with|none=>none|some (ks,l)=>some (.mk 0 [] ks false,l)):=Lib.hid (by rw [←hg,HEQ.out,if_pos HOK.out];rfl)
   clear hg HEQ
   obtain ⟨left1,hleft1⟩:∃ left1,left-(4+(n:Int) * 4)=left1:=⟨_,rfl⟩
   rw [hleft1] at HEQ2 HIN7 S8
   have HL1:Hid (left1≤lenZ zs):=Lib.hid (by have:=HLE.out;have:=HMU.out;omega)
   have HST:Hid (DLtAt w E (w.heap.size+1) O rk sv ev root bp bc zs #[.int .u8 k,.int .i64 r,.int .i64 lm] g left1 n (.int .i64 ((0:Nat):Int)) W8):=Lib.hid ⟨none,0,[],_,false,Nat.zero_le _,rfl,HOB.out,World.ownsRow_nil _ _ _ _,P28.out,HE8.out,HX8.out,S8.out,.inl ⟨rfl,left1,HIN7.out.1,HL1.out,rfl,rfl,fun q hq=>by cases hq⟩⟩
   clear hleft1 HOB S8 P28 HE8 HX8 H7 HE7 P27 HX7 H6 HX6 P26 HE6 H5 HX5 P25 HE2 HEN H3 HX3 P13 P23 H2 HX2 P12 P22 S2 H1 P1 P2 HB1 HB HQ1 HQ2 H0
   go_wp2_with fail
   go_loopw [18] (fun x wr=>DLtAt w E (w.heap.size+1) O rk sv ev root bp bc zs #[.int .u8 k,.int .i64 r,.int .i64 lm] g left1 n x wr) (fun x _=>n-(intOf x).toNat)
   case atStart=>exact HST.out
   case round =>
    obtain ⟨A,cap,l,rc,bad,hln,rfl,hO,hrow,hR,hE,hX,hS,hcase⟩:=hrel
    obtain ⟨j,hj⟩:∃ j,l.length=j:=⟨_,rfl⟩
    rw [hj] at hln hO hrow hcase
    try rw [hj]
    have HO:=Lib.hid hO
    have HROW:=Lib.hid hrow
    have HR:=Lib.hid hR
    have HE:=Lib.hid hE
    have HX:=Lib.hid hX
    have HS:=Lib.hid hS
    clear hO hrow hR hE hX hS
    have HJL:=Lib.hid hj
    clear hj
    rcases hcase with ⟨rfl,l1,h0,h1,rfl,hseq,hkin⟩|⟨rfl,h0,h1,hseq⟩
    · have HL:=Lib.hid (And.intro h0 h1)
      have HSEQ:=Lib.hid hseq
      have HKI:=Lib.hid hkin
      clear h0 h1 hseq hkin
      obtain ⟨_,c0,c1,c2,c3,c4,c5⟩:=blk6 HS.out.blk
      by_cases hjl:j<n
      · have hji:(j:Int)<(n:Int):=by omega
        have hmj:0≤(j:Int) * 4∧(j:Int) * 4≤(n:Int) * 4:=⟨Int.mul_nonneg (by omega) (by omega),Int.mul_le_mul_of_nonneg_right (by omega) (by omega)⟩
        have h7:=HIN7.out
        have hle:=HLE.out
        have hmu:=HMU.out
        have hwj:=IntWalk.i64_in ((j:Int) * 4) ⟨by omega,by omega⟩
        have hwa:=IntWalk.i64_in ((a:Int)+4) ⟨by omega,by omega⟩
        have hwk:=IntWalk.i64_in ((a:Int)+4+(j:Int) * 4) ⟨by omega,by omega⟩
        have HDB:Hid (-1000000000≤(a:Int)+4+(j:Int) * 4∧(a:Int)+4+(j:Int) * 4≤1000000000):=Lib.hid ⟨by omega,by omega⟩
        have HDC:=Lib.hid (HH0.out.exw HX.out HS.out HL.out)
        have hjj:(j:Int)≤16384:=by have:=HNB.out;omega
        clear hmj h7 hle hmu
        go_upto_region 42 with (fail)
        clear c0 c1 c2 c3 c4 c5
        obtain ⟨_,v0,v1,v2,v3⟩:=blk4p HO.out
        obtain ⟨_,s0,s1,s2,_⟩:=blk3 HE.out
        refine wp_region_noPanic ?_
        refine till_start 16 (fun _=>True) (fun w'=>w'.cell? ⟨O,2,none⟩=some (.slice A j cap)∧w'.cell? ⟨E,0,none⟩=some (.int .u8 k)∧w'.cell? ⟨E,1,none⟩=some (.int .i64 r)∧w'.cell? ⟨E,2,none⟩=some (.int .i64 lm)) (by kernel_rfl) ?_
        have HB0:=Lib.hid ((Below.refl wr.heap.size wr).drew)
        have HD0:=Lib.hid (HDC.out.below HB0.out)
        have HSZ0:Hid (wr.drew.heap.size=wr.heap.size):=Lib.hid rfl
        generalize wr.drew=V0 at *
        have hU:True:=trivial
        have hV:=And.intro (cell_stays HB0.out v2) (And.intro (cell_stays HB0.out s0) (And.intro (cell_stays HB0.out s1) (cell_stays HB0.out s2)))
        refine tt 0 (.pointer (some ⟨O,2,none⟩)) hU hV ?_ ?_
        · intro w' hSw
          obtain ⟨_,⟨t0,t1,t2,t3⟩⟩:=hSw
          go_simp
        simp only [td]
        refine tt 1 (.slice A j cap) hU hV ?_ ?_
        · intro w' hSw
          obtain ⟨_,⟨t0,t1,t2,t3⟩⟩:=hSw
          go_simp
        simp only [td]
        refine tt 2 (.pointer (some ⟨rk,0,none⟩)) hU hV ?_ ?_
        · intro w' hSw
          obtain ⟨_,⟨t0,t1,t2,t3⟩⟩:=hSw
          go_simp
        simp only [td]
        refine tt 3 (.agg #[.int .u8 k,.int .i64 r,.int .i64 lm]) hU hV ?_ ?_
        · intro w' hSw
          obtain ⟨_,⟨t0,t1,t2,t3⟩⟩:=hSw
          go_simp
        simp only [td]
        refine tt 4 (.int .i64 a) hU hV ?_ ?_
        · intro w' hSw
          obtain ⟨_,⟨t0,t1,t2,t3⟩⟩:=hSw
          go_simp
        simp only [td]
        refine tt 5 (.int .i64 ((a:Int)+4)) hU hV ?_ ?_
        · intro w' hSw
          obtain ⟨_,⟨t0,t1,t2,t3⟩⟩:=hSw
          go_simp
        simp only [td]
        refine tt 6 (.int .i64 j) hU hV ?_ ?_
        · intro w' hSw
          obtain ⟨_,⟨t0,t1,t2,t3⟩⟩:=hSw
          go_simp
        simp only [td]
        refine tt 7 (.int .i64 4) hU hV ?_ ?_
        · intro w' hSw
          obtain ⟨_,⟨t0,t1,t2,t3⟩⟩:=hSw
          go_simp
        simp only [td]
        refine tt 8 (.int .i64 ((j:Int) * 4)) hU hV ?_ ?_
        · intro w' hSw
          obtain ⟨_,⟨t0,t1,t2,t3⟩⟩:=hSw
          go_simp
        simp only [td]
        refine tt 9 (.int .i64 ((a:Int)+4+(j:Int) * 4)) hU hV ?_ ?_
        · intro w' hSw
          obtain ⟨_,⟨t0,t1,t2,t3⟩⟩:=hSw
          go_simp
        simp only [td]
        refine tt 10 (.int .i64 room) hU hV ?_ ?_
        · intro w' hSw
          obtain ⟨_,⟨t0,t1,t2,t3⟩⟩:=hSw
          go_simp
        simp only [td]
        refine tt 11 (.int .i64 q) hU hV ?_ ?_
        · intro w' hSw
          obtain ⟨_,⟨t0,t1,t2,t3⟩⟩:=hSw
          go_simp
        simp only [td]
        refine till_one (i:=12) (by kernel_rfl) rfl (fun K hK=>?_)
        rw [if_pos (by kernel_rfl)]
        go_simp
        refine (HVL.out.run HD0.out k r lm ((a:Int)+4+(j:Int) * 4) HTY.out HDB.out).mono ?_
        intro e V1 hpost
        obtain ⟨x0,x1,x2,x3,rfl,hform,hx1,hdj⟩:=hpost.form
        have HFO:=Lib.hid hform
        have HXV:Hid (Exw rk rk wr.heap.size wr V1):=Lib.hid (Exw.after HB0.out hx1)
        have HDJ:=Lib.hid hdj
        have hV1:=And.intro (cell_exw HXV.out v2 (by have:=HRE.out;have:=HEO.out;show O≠rk;omega) (by have:=HRE.out;have:=HEO.out;show O≠rk;omega)) (And.intro (cell_exw HXV.out s0 (by have:=HRE.out;show E≠rk;omega) (by have:=HRE.out;show E≠rk;omega)) (And.intro (cell_exw HXV.out s1 (by have:=HRE.out;show E≠rk;omega) (by have:=HRE.out;show E≠rk;omega)) (cell_exw HXV.out s2 (by have:=HRE.out;show E≠rk;omega) (by have:=HRE.out;show E≠rk;omega))))
        refine hK.out _ _ trivial hV1 ?_
        clear hpost hform hx1 hdj hV hK K
        have hV:=hV1
        clear hV1
        refine till_one (i:=13) (by kernel_rfl) rfl (fun K hK=>?_)
        rw [if_pos (by kernel_rfl)]
        go_simp
        have hs:Below V1.heap.size V1 (V1.alloc (.cells #[x0,x1,x2,x3] 36)):=(Below.refl _ _).alloc (Nat.le_refl _) _
        have HBS:=Lib.hid hs
        have HN:=Lib.hid (heap_alloc_new V1 (.cells #[x0,x1,x2,x3] 36))
        have hV1:=And.intro (cell_stays hs hV.1) (And.intro (cell_stays hs hV.2.1) (And.intro (cell_stays hs hV.2.2.1) (cell_stays hs hV.2.2.2)))
        refine hK.out _ _ trivial hV1 ?_
        clear hs hV hK K
        have hV:=hV1
        clear hV1
        generalize V1.alloc (.cells #[x0,x1,x2,x3] 36)=V2 at *
        have hka:=kid_app (has:=false) (rk:=rk) (O:=O) (Bk:=V1.heap.size) (l:=l) (A:=A) (cap:=cap) (by have:=HRE.out;have:=HEO.out;omega) (by rw [HJL.out];exact HO.out) (by rw [HJL.out];exact HROW.out) HXV.out HBS.out HN.out HFO.out (by rw [HJL.out];have:=HNB.out;have:=HIN7.out;have:=HLE.out;omega)
        rw [HJL.out] at hka
        obtain ⟨a4,c4,V3,hrun,hO3,hX3,hrk3,hO9,hrow9,hcl3,hkin9⟩:=hka
        have hne:(Value.slice A j cap).ownBlock≠some E:=fun e=>by have h5:=(ownsRow_lt HROW.out _ e).1;have:=HEO.out;omega
        have hV3:=And.intro ((blk_cell hO3 2).trans rfl) (And.intro (hcl3 ⟨E,0,none⟩ _ hne hV.2.1) (And.intro (hcl3 ⟨E,1,none⟩ _ hne hV.2.2.1) (hcl3 ⟨E,2,none⟩ _ hne hV.2.2.2)))
        have m2f:=blk_frozen hO3 2
        have HX3:=Lib.hid hX3
        have HRK3:=Lib.hid hrk3
        have HO9:=Lib.hid hO9
        have HROW9:=Lib.hid hrow9
        have HKIN9:=Lib.hid hkin9
        clear hO3 hX3 hrk3 hO9 hrow9 hcl3 hkin9 hne hV
        refine till_one (i:=14) (by kernel_rfl) rfl (fun K hK=>?_)
        rw [if_pos (by kernel_rfl)]
        refine wp_append_run _ (.tmp 197) (.tmp 209) 34 rfl _ _ _ _ rfl rfl hrun ?_
        refine hK.out _ _ trivial hV3 ?_
        clear hK K hrun
        have hV:=hV3
        clear hV3
        refine tt 15 (.pointer (some ⟨O,2,none⟩)) hU hV ?_ ?_
        · intro w' hSw
          obtain ⟨_,⟨t0,t1,t2,t3⟩⟩:=hSw
          go_simp
        simp only [td]
        have m2:=hV.1
        refine till_last (by kernel_rfl) rfl (fun K hK=>?_)
        rw [if_pos (by kernel_rfl)]
        go_simp
        refine hK.out _ _ trivial ?_
        clear hK K hV m2 m2f
        refine till_done (by kernel_rfl) ?_ _
        refine NoPanic.normal ?_
        try simp only [Exit.inBlock,Exit.then]
        go_wp2
        go_roundw
        case rel =>
         have hjn:j+1≤n:=by omega
         have hXn:Exw rk rk w.heap.size w (V3.setCell ⟨O,2,none⟩ (.slice a4 (j+1) c4)):=HX.out.trans (HX3.out.mono (by have:=HE1.out;have:=HEO.out;omega))
         have hRn:=(HX3.out.block (w.heap.size+1) (by have:=HE1.out;have:=HEO.out;omega) (by have:=HRK.out;omega) (by have:=HRK.out;omega)).trans HR.out
         have hEn:=(HX3.out.block E HEO.out (by have:=HRE.out;omega) (by have:=HRE.out;omega)).trans HE.out
         rcases HDJ.out with ⟨v,l2,hres,hl2,hvh,hst⟩|⟨hres,rc,hr0,hr1,hst⟩
         · have e1:(l++[(⟨v,x0,x1,x2,x3⟩:KV)]).length=j+1:=by rw [List.length_append,HJL.out];rfl
           refine ⟨a4,c4,l++[⟨v,x0,x1,x2,x3⟩],_,false,by rw [e1];exact hjn,by rw [e1];go_num,by rw [e1];exact HO9.out,by rw [e1];exact HROW9.out v,hRn,hEn,hXn,HH0.out.st.keep HV.out hXn (HRK3.out.trans hst.blk),.inl ⟨rfl,l2,hl2.1,hl2.2,rfl,?_,by rw [e1];exact HKIN9.out v HKI.out (by rw [HSZ0.out] at hvh;exact hvh)⟩⟩
           rw [e1,seqD_succ HSEQ.out,HG.out,hres,List.map_append]
           rfl
         · have e1:(l++[(⟨nilV,x0,x1,x2,x3⟩:KV)]).length=j+1:=by rw [List.length_append,HJL.out];rfl
           exact ⟨a4,c4,l++[⟨nilV,x0,x1,x2,x3⟩],rc,true,by rw [e1];exact hjn,by rw [e1];go_num,by rw [e1];exact HO9.out,by rw [e1];exact HROW9.out nilV,hRn,hEn,hXn,HH0.out.st.keep HV.out hXn (HRK3.out.trans hst.blk),.inr ⟨rfl,hr0,hr1,seqD_le hjn (by rw [seqD_succ HSEQ.out,HG.out,hres])⟩⟩
        case measure=>simp [intOf];omega
      · have hji:¬(j:Int)<(n:Int):=by omega
        obtain rfl:j=n:=by omega
        clear hjl
        obtain ⟨_,v0,v1,v2,v3⟩:=blk4p HO.out
        obtain ⟨_,u0,u1,u2,u3⟩:=blk4p HR.out
        have p0:=blk_frozen HR.out 0
        have p1:=blk_frozen HR.out 1
        have p2:=blk_frozen HR.out 2
        have p3:=blk_frozen HR.out 3
        go_wp2
        refine post_gen (fun Wf=>Wf.heap[w.heap.size+1]?=some (.cells #[.int .u64 0,.slice none 0 0,.slice A j cap,.bool false] 36 (0,0))∧P (.returned (.agg #[.int .u64 0,.slice none 0 0,.slice A j cap,.bool false])) Wf) ⟨?_,?_⟩ ?_
        · exact blk_set4 HR.out _ _ _ _
        · rw [HP.out]
          have hx4:=((((HX.out).setCell (p:=⟨w.heap.size+1,0,none⟩) (.inr (.inr (show w.heap.size≤w.heap.size+1 by omega))) (.int .u64 0)).setCell (p:=⟨w.heap.size+1,1,none⟩) (.inr (.inr (show w.heap.size≤w.heap.size+1 by omega))) (.slice none 0 0)).setCell (p:=⟨w.heap.size+1,2,none⟩) (.inr (.inr (show w.heap.size≤w.heap.size+1 by omega))) (.slice A j cap)).setCell (p:=⟨w.heap.size+1,3,none⟩) (.inr (.inr (show w.heap.size≤w.heap.size+1 by omega))) (.bool false)
          have hEO:=HEO.out
          have hE1:=HE1.out
          have hvh:=vh_kids (S':=newS w.heap.size) (l:=l) (A:=A) (cap:=cap) (own_set4 (R:=w.heap.size+1) HROW.out (by omega) (.int .u64 0) (.slice none 0 0) (.slice A j cap) (.bool false)) (HKI.out.step (by unfold set4;simp [World.setCell]) (fun k hk hS=>⟨hS,set4_blk wr (by have:=(rowS_no.1 hS).1;omega) _ _ _ _⟩)) (fun k hS=>by have:=(rowS_no.1 hS).1;unfold newS;simp;omega) (fun k hk=>by unfold newS;simp;omega) false
          exact ⟨hx4,.inl ⟨_,l1,_,by rw [HTA.out,HEQ2.out,HSEQ.out],HL.out,rfl,hvh,HH0.out.st.keep HV.out hx4 ((set4_blk wr (by have:=HRK.out;omega) _ _ _ _).trans HS.out.blk)⟩⟩
        · rintro Wf ⟨e1,e2⟩
          obtain ⟨_,d0,d1,d2,d3⟩:=blk4p e1
          exact bodyPost_ret (v:=.agg #[.int .u64 0,.slice none 0 0,.slice A j cap,.bool false]) (by simp [results,Tryd.results106,go_sem,d0,d1,d2,d3]) rfl e2
    · have HL:=Lib.hid (And.intro h0 h1)
      have HSEQ:=Lib.hid hseq
      clear h0 h1 hseq
      obtain ⟨_,c0,c1,c2,c3,c4,c5⟩:=blk6 HS.out.blk
      by_cases hjl:j<n
      · have hji:(j:Int)<(n:Int):=by omega
        clear hjl
        obtain ⟨_,v0,v1,v2,v3⟩:=blk4p HO.out
        obtain ⟨_,u0,u1,u2,u3⟩:=blk4p HR.out
        have p0:=blk_frozen HR.out 0
        have p1:=blk_frozen HR.out 1
        have p2:=blk_frozen HR.out 2
        have p3:=blk_frozen HR.out 3
        go_wp2
        refine post_gen (fun Wf=>Wf.heap[w.heap.size+1]?=some (.cells #[.int .u64 0,.slice none 0 0,.slice A j cap,.bool false] 36 (0,0))∧P (.returned (.agg #[.int .u64 0,.slice none 0 0,.slice A j cap,.bool false])) Wf) ⟨?_,?_⟩ ?_
        · exact blk_set4 HR.out _ _ _ _
        · rw [HP.out]
          have hx4:=((((HX.out).setCell (p:=⟨w.heap.size+1,0,none⟩) (.inr (.inr (show w.heap.size≤w.heap.size+1 by omega))) (.int .u64 0)).setCell (p:=⟨w.heap.size+1,1,none⟩) (.inr (.inr (show w.heap.size≤w.heap.size+1 by omega))) (.slice none 0 0)).setCell (p:=⟨w.heap.size+1,2,none⟩) (.inr (.inr (show w.heap.size≤w.heap.size+1 by omega))) (.slice A j cap)).setCell (p:=⟨w.heap.size+1,3,none⟩) (.inr (.inr (show w.heap.size≤w.heap.size+1 by omega))) (.bool false)
          exact rdpost_bad (by rw [HTA.out,HEQ2.out,HSEQ.out]) hx4 (vform _ _ _ _ _ _ _ _) HL.out.1 HL.out.2 (HH0.out.st.keep HV.out hx4 ((set4_blk wr (by have:=HRK.out;omega) _ _ _ _).trans HS.out.blk))
        · rintro Wf ⟨e1,e2⟩
          obtain ⟨_,d0,d1,d2,d3⟩:=blk4p e1
          exact bodyPost_ret (v:=.agg #[.int .u64 0,.slice none 0 0,.slice A j cap,.bool false]) (by simp [results,Tryd.results106,go_sem,d0,d1,d2,d3]) rfl e2
      · have hji:¬(j:Int)<(n:Int):=by omega
        clear hjl
        obtain ⟨_,v0,v1,v2,v3⟩:=blk4p HO.out
        obtain ⟨_,u0,u1,u2,u3⟩:=blk4p HR.out
        have p0:=blk_frozen HR.out 0
        have p1:=blk_frozen HR.out 1
        have p2:=blk_frozen HR.out 2
        have p3:=blk_frozen HR.out 3
        go_wp2
        refine post_gen (fun Wf=>Wf.heap[w.heap.size+1]?=some (.cells #[.int .u64 0,.slice none 0 0,.slice A j cap,.bool false] 36 (0,0))∧P (.returned (.agg #[.int .u64 0,.slice none 0 0,.slice A j cap,.bool false])) Wf) ⟨?_,?_⟩ ?_
        · exact blk_set4 HR.out _ _ _ _
        · rw [HP.out]
          have hx4:=((((HX.out).setCell (p:=⟨w.heap.size+1,0,none⟩) (.inr (.inr (show w.heap.size≤w.heap.size+1 by omega))) (.int .u64 0)).setCell (p:=⟨w.heap.size+1,1,none⟩) (.inr (.inr (show w.heap.size≤w.heap.size+1 by omega))) (.slice none 0 0)).setCell (p:=⟨w.heap.size+1,2,none⟩) (.inr (.inr (show w.heap.size≤w.heap.size+1 by omega))) (.slice A j cap)).setCell (p:=⟨w.heap.size+1,3,none⟩) (.inr (.inr (show w.heap.size≤w.heap.size+1 by omega))) (.bool false)
          exact rdpost_bad (by rw [HTA.out,HEQ2.out,HSEQ.out]) hx4 (vform _ _ _ _ _ _ _ _) HL.out.1 HL.out.2 (HH0.out.st.keep HV.out hx4 ((set4_blk wr (by have:=HRK.out;omega) _ _ _ _).trans HS.out.blk))
        · rintro Wf ⟨e1,e2⟩
          obtain ⟨_,d0,d1,d2,d3⟩:=blk4p e1
          exact bodyPost_ret (v:=.agg #[.int .u64 0,.slice none 0 0,.slice A j cap,.bool false]) (by simp [results,Tryd.results106,go_sem,d0,d1,d2,d3]) rfl e2
 · have HNO:=Lib.hid hno
   have HRC:=Lib.hid (And.intro hrc0 hrc1)
   have S7:=Lib.hid hs7
   clear hx7 hs7 hno hrc0 hrc1
   obtain ⟨_,c0,c1,c2,c3,c4,c5⟩:=blk6 S7.out.blk
   have f5:=blk_frozen S7.out.blk 5
   have HS8:=Lib.hid ((blk_set S7.out.blk 5 (.bool true)).trans rfl)
   have HX8:=Lib.hid (HX7.out.setCell (p:=⟨rk,5,none⟩) (.inl rfl) (.bool true))
   have P28:=Lib.hid (blk_set_ne P27.out (p:=⟨rk,5,none⟩) (by have:=HRK.out;show rk≠_;omega) (.bool true))
   go_upto_region 37 with (fail)
   clear c0 c1 c2 c3 c4 c5 f5
   generalize W7.setCell ⟨rk,5,none⟩ (.bool true)=W8 at *
   obtain ⟨_,u0,u1,u2,u3⟩:=blk4p P28.out
   have p0:=blk_frozen P28.out 0
   have p1:=blk_frozen P28.out 1
   have p2:=blk_frozen P28.out 2
   have p3:=blk_frozen P28.out 3
   go_wp2
   refine post_gen (fun Wf=>Wf.heap[w.heap.size+1]?=some (.cells #[.int .u64 0,.slice none 0 0,.slice none 0 0,.bool false] 36 (0,0))∧P (.returned (.agg #[.int .u64 0,.slice none 0 0,.slice none 0 0,.bool false])) Wf) ⟨?_,?_⟩ ?_
   · exact blk_set4 P28.out _ _ _ _
   · rw [HP.out]
     have hx4:=((((HX8.out).setCell (p:=⟨w.heap.size+1,0,none⟩) (.inr (.inr (show w.heap.size≤w.heap.size+1 by omega))) (.int .u64 0)).setCell (p:=⟨w.heap.size+1,1,none⟩) (.inr (.inr (show w.heap.size≤w.heap.size+1 by omega))) (.slice none 0 0)).setCell (p:=⟨w.heap.size+1,2,none⟩) (.inr (.inr (show w.heap.size≤w.heap.size+1 by omega))) (.slice none 0 0)).setCell (p:=⟨w.heap.size+1,3,none⟩) (.inr (.inr (show w.heap.size≤w.heap.size+1 by omega))) (.bool false)
     exact rdpost_bad (by rw [HTA.out,HEQ.out,if_neg (by rw [HNO.out];decide)]) hx4 (vform _ _ _ _ _ _ _ _) HRC.out.1 HRC.out.2 (HH0.out.st.keep HV.out hx4 ((set4_blk W8 (by have:=HRK.out;omega) _ _ _ _).trans HS8.out))
   · rintro Wf ⟨e1,e2⟩
     obtain ⟨_,d0,d1,d2,d3⟩:=blk4p e1
     exact bodyPost_ret (v:=.agg #[.int .u64 0,.slice none 0 0,.slice none 0 0,.bool false]) (by simp [results,Tryd.results106,go_sem,d0,d1,d2,d3]) rfl e2
end Go.Proofs.YtcfjjocmiheiaaaDoor
