/-
  The document's own reading of tables: bytes and texts. Conditions: those that each theorem names.
-/
import Derived.Test.YtcfjjocmiheiaaaDoorPkD5
import Derived.Test.YtcfjjocmiheiaaaDoorPkD6
import Derived.Test.YtcfjjocmiheiaaaDoorPkD13
import Derived.Test.YtcfjjocmiheiaaaDoorPkD14
import Derived.Test.YtcfjjocmiheiaaaDoorPkD29
namespace Go.Proofs.YtcfjjocmiheiaaaDoor
open Go.ChangeShapes Go.WideShapes Go.ChangeAt Go.RowKit Go.Shelf
variable {base B:Nat} {W W':World} {rk:Nat} {sv ev:Value} {root:Int} {bp:Option Addr} {bc:Nat} {zs:List Int} {ss:List (SRec × Value)} {es:List (SCho × Value)} {left l':Int}
theorem bytesAt_eq {zs:List Int}{k:Nat}{to left m:Int}{n:Nat}(h1:inZ (lenZ zs) to 4=true)(hn:leAt zs to.toNat 4=n)(hm:m=4+n+(if k=11 then 1 else 0)) :
  bytesAtZ zs k to left=if reachOk zs to m left=true∧(k=11→zs.getD (to.toNat+4+n) 0=0∧u8At (partZ zs (to.toNat+4) n) 0<0) then some (.mk 0 (partZ zs (to.toNat+4) n) [] false,left-m) else none:=by
 unfold bytesAtZ reachOk
 rw [if_pos h1,hn,←hm,Int.toNat_natCast]
 simp only [Bool.and_eq_true,decide_eq_true_eq,and_assoc]
theorem u8_infoD:(Tryd.prog.info? 5).map (fun i=>(i.zero,i.size,i.bytes))=some (some (.int .u8 0),1,1):=by kernel_rfl
set_option maxRecDepth 100000 in
set_option maxHeartbeats 8000000 in
theorem rdval_bytes (w:World)(h:DCtx base B w rk sv ev root bp bc zs ss es left)(k r l:Nat)(at':Int)(room:Int)(ht:TyM ss.length (es.map Prod.fst) k r l)(hs:sortP k l=2)(ha : -1000000000≤at'∧at'≤1000000000)(hj:badJ zs at'=false)(hin:inZ (lenZ zs) (toJ zs at') 4=true) :
  Calls Tryd.prog 106 #[.pointer (some ⟨rk,0,none⟩),.agg #[.int .u8 k,.int .i64 r,.int .i64 l],.int .i64 at',.int .i64 room] w (RdPost (bytesAtZ zs k (toJ zs at') left) w rk sv ev root bp bc zs):=by
 have hs1:sortP k l≠1:=by omega
 obtain ⟨hb,hq1,hq2⟩:=two_start w #[.int .u8 k,.int .i64 r,.int .i64 l] #[.int .u64 0,.slice none 0 0,.slice none 0 0,.bool false] 50 36
 have HB:=Lib.hid hb
 have HQ1:=Lib.hid hq1
 have HQ2:=Lib.hid hq2
 have H0:=Lib.hid (h.below hb)
 have HH0:=Lib.hid h
 have HV:=Lib.hid h.rows.rowV
 have HZB:=Lib.hid h.st.bytes.1
 have HRK:Hid (rk<w.heap.size):=Lib.hid (blk_lt h.st.blk)
 have HAT:=Lib.hid ha
 have hk13:=ht.hi
 have HNT:Hid (∀ W,Calls Tryd.prog 38 #[.agg #[.int .u8 k,.int .i64 r,.int .i64 l]] W fun e w'=>e=.returned (.bool false)∧Below W.heap.size W w'):=Lib.hid (fun W=>by
  have h5:=rnumI_any k (by omega) r l W
  rw [num_no hs1] at h5
  exact h5)
 have HJ:=Lib.hid hj
 have HIN:=Lib.hid hin
 have HLE:Hid (lenZ zs≤16384∧0≤left∧left≤lenZ zs):=Lib.hid ⟨h.len,h.hl⟩
 have hld:=leAt_4 zs (toJ zs at').toNat h.st.bytes.1
 have hldO:ldO zs (toJ zs at') 4=leAt zs (toJ zs at').toNat 4:=if_pos hin
 obtain ⟨n,hn⟩:∃ n:Nat,leAt zs (toJ zs at').toNat 4=n:=Int.eq_ofNat_of_zero_le hld.1
 rw [hn] at hld hldO
 have HEQ:=Lib.hid (fun m (hm:m=4+(n:Int)+(if k=11 then 1 else 0))=>bytesAt_eq (left:=left) hin hn hm)
 have HNV:=Lib.hid hldO
 obtain ⟨P,hP⟩:∃ P,RdPost (bytesAtZ zs k (toJ zs at') left) w rk sv ev root bp bc zs=P:=⟨_,rfl⟩
 rw [hP]
 have HP:=Lib.hid hP.symm
 have hty:=tyM_sort ht
 have hi1:=inZ_iff.1 hin
 obtain ⟨a,hta⟩:∃ a:Nat,toJ zs at'=a:=⟨(toJ zs at').toNat,by omega⟩
 have HTA:=Lib.hid hta
 rw [hta] at HIN HNV
 have HI1:Hid (a+4≤zs.length∧zs.length≤16384∧zs.length≤bc):=Lib.hid (by rw [hta] at hi1;have h2:=h.st.len;have h3:=h.st.cap;unfold lenZ at hi1;omega)
 obtain ⟨hl,hkk⟩:l=0∧(k=11∨k=12):=by
  rcases hty with ⟨_,hs3⟩|⟨_,_,_,hs3⟩|⟨h1,h2,_⟩|⟨_,_,hs3⟩
  · omega
  · omega
  · exact ⟨h1,h2⟩
  · omega
 have hl0:((l:Int)==0)=true:=by simp;omega
 have hk0:((k:Int)==13)=false:=by simp;omega
 have hne:zs≠[]:=fun e=>by have:=HI1.out;subst e;simp at this
 obtain ⟨b,off,rfl,_,_⟩:=h.st.bytes.2 hne
 clear hb hq1 hq2 h hP hs1 hk13 ha ht hs hty hin hj hn hldO hi1 hne hl
 go_enter Tryd.func106,Tryd.ntmps106
 go_upto_region 1 with (fail)
 generalize (w.alloc (.cells #[.int .u8 k,.int .i64 r,.int .i64 l] 50)).alloc (.cells #[.int .u64 0,.slice none 0 0,.slice none 0 0,.bool false] 36)=W0 at *
 obtain ⟨_,c0,c1,c2,c3,c4,c5⟩:=blk6 H0.out.st.blk
 obtain ⟨_,s0,s1,s2,_⟩:=blk3 HQ1.out
 go_wp2_with fail
 refine (HNT.out _).mono ?_
 rintro e W1 ⟨rfl,hb1⟩
 have HB1:=Lib.hid (HB.out.trans (hb1.mono HB.out.size))
 have H1:=Lib.hid (H0.out.below hb1)
 have P1:=Lib.hid (blk_below HQ1.out hb1 (blk_lt HQ1.out))
 have P2:=Lib.hid (blk_below HQ2.out hb1 (blk_lt HQ2.out))
 clear hb1 c0 c1 c2 c3 c4 c5 s0 s1 s2
 go_wp2_with fail
 refine (jump_ctx H1.out at' HAT.out).mono ?_
 rintro e W2 ⟨rfl,hs2,hx2⟩
 have HX2:=Lib.hid (Exw.after HB1.out hx2)
 have S2:=Lib.hid hs2
 have P12:=Lib.hid (blk_exw P1.out hx2 (blk_lt P1.out) (by have:=HRK.out;omega) (by have:=HRK.out;omega))
 have P22:=Lib.hid (blk_exw P2.out hx2 (blk_lt P2.out) (by have:=HRK.out;omega) (by have:=HRK.out;omega))
 have hx2K:=hx2
 clear hs2 hx2
 obtain ⟨_,s0,s1,s2,_⟩:=blk3 P12.out
 have H2:=Lib.hid (H1.out.exw hx2K (by have h5:=S2.out;rw [HJ.out] at h5;exact h5) HLE.out.2)
 go_wp2_with fail
 refine (rdnum_any W2 H2.out.st HV.out _ 4 (.inr rfl)).mono ?_
 rintro e W3 ⟨rfl,hs3,hx3⟩
 rw [show (false || !inZ (lenZ zs) (a:Int) ((4:Nat):Int))=false from by rw [Bool.false_or,show inZ (lenZ zs) (a:Int) ((4:Nat):Int)=true from HIN.out];rfl] at hs3
 rw [HNV.out]
 have HX3:=Lib.hid (HX2.out.then hx3)
 have H3:=Lib.hid (H2.out.exw hx3 hs3 HLE.out.2)
 have P13:=Lib.hid (blk_exw P12.out hx3 (blk_lt P12.out) (by have:=HRK.out;omega) (by have:=HRK.out;omega))
 have P23:=Lib.hid (blk_exw P22.out hx3 (blk_lt P22.out) (by have:=HRK.out;omega) (by have:=HRK.out;omega))
 clear hs3 hx3 s0 s1 s2 hx2K
 have hw1:=IntWalk.i64_in (4+(n:Int)) ⟨by omega,by omega⟩
 obtain ⟨_,c0,c1,c2,c3,c4,c5⟩:=blk6 H3.out.st.blk
 obtain ⟨_,s0,s1,s2,_⟩:=blk3 P13.out
 rcases hkk with rfl|rfl
 · have hw2:=IntWalk.i64_in (4+(n:Int)+1) ⟨by omega,by omega⟩
   go_wp2_with fail
   refine (reach_ctx H3.out _ (4+(n:Int)+1)).mono ?_
   rintro e W4 ⟨hx4,hr⟩
   have HX4:=Lib.hid (HX3.out.then hx4)
   have P14:=Lib.hid (blk_exw P13.out hx4 (blk_lt P13.out) (by have:=HRK.out;omega) (by have:=HRK.out;omega))
   have P24:=Lib.hid (blk_exw P23.out hx4 (blk_lt P23.out) (by have:=HRK.out;omega) (by have:=HRK.out;omega))
   clear s0 s1 s2 c0 c1 c2 c3 c4 c5
   rcases hr with ⟨hok,rfl,hs4⟩|⟨hno,rfl,rc,hrc0,hrc1,hs4⟩
   · have H4:=Lib.hid (H3.out.exw hx4 hs4 (by have h5:=HLE.out;unfold reachOk at hok;rw [Bool.and_eq_true,decide_eq_true_eq] at hok;omega))
     have HOK:=Lib.hid hok
     have HLF:Hid (0≤left-(4+(n:Int)+1)):=Lib.hid (by unfold reachOk at hok;rw [Bool.and_eq_true,decide_eq_true_eq] at hok;exact hok.2)
     have HTN:Hid ((a:Int).toNat=a):=Lib.hid (Int.toNat_natCast a)
     have hrz:a+4+n+1≤zs.length:=by
      unfold reachOk at hok
      rw [Bool.and_eq_true] at hok
      have h5:=inZ_iff.1 hok.1
      unfold lenZ at h5
      omega
     clear hx4 hs4 hok
     have hcap:=HI1.out
     have hwa:=IntWalk.i64_in ((a:Int)+4) ⟨by omega,by omega⟩
     have hwb:=IntWalk.i64_in ((a:Int)+4+(n:Int)) ⟨by omega,by omega⟩
     have E1:((a:Int)+4+(n:Int)).toNat-((a:Int)+4).toNat=n:=by omega
     have E2:((a:Int)+4+(n:Int)).toNat=a+4+n:=by omega
     have E3:((a:Int)+4).toNat=a+4:=by omega
     have E4:a+4+n-(a+4)=n:=by omega
     obtain ⟨_,c0,c1,c2,c3,c4,c5⟩:=blk6 H4.out.st.blk
     obtain ⟨_,s0,s1,s2,_⟩:=blk3 P14.out
     have HPB:=Lib.hid (fun V o (hV:Below W4.heap.size W4 V) (ho:0<n→o=off+(a+4))=>part_bytes (n:=n) (a:=a+4) (H4.out.st.bytes.below (Nat.le_refl _) hV) ho (by omega))
     have HPL:=Lib.hid (partZ_length (zs:=zs) (a:=a+4) (n:=n) (by omega))
     have HOWN0:=Lib.hid (own_blk (base:=W4.heap.size) (n:=0) (size:=1) (heap_alloc_new W4 (.cells #[] 5)) (Nat.le_refl _) (by decide) rfl)
     have HA0:=Lib.hid ((Below.refl W4.heap.size W4).alloc (Nat.le_refl _) (.cells #[] 5))
     have hAB:Bytes (W4.alloc (.cells #[] 5)) (some ⟨b,off+(a+4),none⟩) (partZ zs (a+4) n):=by
      exact HPB.out _ _ HA0.out (fun _=>rfl)
     have HAB:=Lib.hid hAB
     have HSRC:=Lib.hid (src_bytes hAB (fun p x hp=>hp) (bc-(a+4)))
     rw [HPL.out] at HSRC
     obtain ⟨i0,hi0,hzz0,hzz1,hzz2⟩:=info_parts u8_infoD
     have I1:=Lib.hid hi0
     have I2:=Lib.hid hzz0
     have I3:=Lib.hid hzz1
     have I4:=Lib.hid hzz2
     clear hi0 hzz0 hzz1 hzz2 hAB
     go_upto_region 27 with (at_builtin;refine wpList_append_first _ rfl (.tmp 113) (.tmp 124) 22 22 rfl W4.heap.size 5 i0 _ 1 Tryd.underlying22 I1.out I2.out I3.out rfl _ rfl HOWN0.out _ n (u8Cells (partZ zs (a+4) n)) rfl HSRC.out (by unfold maxLen;omega) (by rw [I4.out];omega) (by simp) ?_;intro v4 W5 hown4 hg4 hat4;clear hat4;obtain ⟨a4,m4,rfl⟩:=ownsRow_form hown4;have HB5:=Lib.hid (HA0.out.grown hg4 (by simp) (fun k hk=>(ownsRow_lt HOWN0.out k hk).1));have HO5:=Lib.hid hown4;clear hown4 hg4)
     clear s0 s1 s2 c0 c1 c2 c3 c4 c5
     have H5:=Lib.hid (H4.out.below HB5.out)
     have HX5:=Lib.hid (HX4.out.bel HB5.out)
     have P15:=Lib.hid (blk_below P14.out HB5.out (blk_lt P14.out))
     have P25:=Lib.hid (blk_below P24.out HB5.out (blk_lt P24.out))
     have HZP:=Lib.hid (bytes_all HAB.out)
     clear HSRC HOWN0 HA0 I1 I2 I3 I4
     obtain ⟨_,s0,s1,s2,_⟩:=blk3 P15.out
     obtain ⟨z0,hz0⟩:∃ z0,zs.getD (a+4+n) 0=z0:=⟨_,rfl⟩
     have hzr:=H5.out.st.bytes.1 (a+4+n)
     rw [hz0] at hzr
     have hzc:W5.cell? ⟨b,off+(a+4+n),none⟩=some (.int .u8 z0):=by
      obtain ⟨b',off',he,_,hcc⟩:=H5.out.st.bytes.2 (fun e=>by rw [e] at hrz;simp at hrz)
      injection he with he
      injection he with he1 he2 _
      subst he1 he2
      have h6:=hcc (a+4+n) (by omega)
      rw [hz0] at h6
      exact h6
     have hlt1:(a:Int)+4+(n:Int)<(zs.length:Int):=by omega
     have HZ0:=Lib.hid hz0
     obtain ⟨_,c0,c1,c2,c3,c4,c5⟩:=blk6 H5.out.st.blk
     have HBY:Hid (Bytes W5 a4 (partZ zs (a+4) n)):=Lib.hid (Bytes.mono (by rw [hide_size];exact Nat.le_refl _) (fun p x hp=>(hide_some hp).2) (bytes_own (S:=fun _=>false) HO5.out HZP.out (fun _ _=>rfl)).1)
     have HTX:=Lib.hid (vtext_any a4 m4 n (partZ zs (a+4) n) W5 (H5.out.amb _ (Below.refl _ _)) HBY.out HPL.out (by omega) (row_cap HO5.out))
     obtain ⟨d,hd⟩:∃ d,u8At (partZ zs (a+4) n) 0=d:=⟨_,rfl⟩
     have HD:=Lib.hid hd
     rw [hd] at HTX
     clear hz0 hd
     by_cases hzz:z0=0
     · subst hzz
       go_wp2_with fail
       refine HTX.out.mono ?_
       rintro e W6 ⟨rfl,hb6⟩
       have H6:=Lib.hid (H5.out.below hb6)
       have HX6:=Lib.hid (HX5.out.bel hb6)
       have P26:=Lib.hid (blk_below P25.out hb6 (blk_lt P25.out))
       have HO6:=Lib.hid (row_keep hb6 HO5.out)
       clear hb6 c0 c1 c2 c3 c4 c5 s0 s1 s2 hzc
       by_cases hdn:d<0
       · rw [decide_eq_true hdn]
         have HDN:=Lib.hid hdn
         clear hdn
         obtain ⟨_,u0,u1,u2,u3⟩:=blk4p P26.out
         have p0:=blk_frozen P26.out 0
         have p1:=blk_frozen P26.out 1
         have p2:=blk_frozen P26.out 2
         have p3:=blk_frozen P26.out 3
         go_wp2
         refine post_gen (fun Wf=>Wf.heap[w.heap.size+1]?=some (.cells #[.int .u64 0,.slice a4 n m4,.slice none 0 0,.bool false] 36 (0,0))∧P (.returned (.agg #[.int .u64 0,.slice a4 n m4,.slice none 0 0,.bool false])) Wf) ⟨?_,?_⟩ ?_
         · exact blk_set4 P26.out _ _ _ _
         · rw [HP.out]
           have hx4:=((((HX6.out).setCell (p:=⟨w.heap.size+1,0,none⟩) (.inr (.inr (show w.heap.size≤w.heap.size+1 by omega))) (.int .u64 0)).setCell (p:=⟨w.heap.size+1,1,none⟩) (.inr (.inr (show w.heap.size≤w.heap.size+1 by omega))) (.slice a4 n m4)).setCell (p:=⟨w.heap.size+1,2,none⟩) (.inr (.inr (show w.heap.size≤w.heap.size+1 by omega))) (.slice none 0 0)).setCell (p:=⟨w.heap.size+1,3,none⟩) (.inr (.inr (show w.heap.size≤w.heap.size+1 by omega))) (.bool false)
           have hle:=HLE.out
           have hvh:=vh_bytes (S:=newS w.heap.size) (own_set4 (R:=w.heap.size+1) HO6.out (by have:=blk_lt P24.out;omega) (.int .u64 0) (.slice a4 n m4) (.slice none 0 0) (.bool false)) HZP.out (fun k hk=>by have:=blk_lt P24.out;unfold newS;simp;omega)
           exact ⟨hx4,.inl ⟨_,left-(4+(n:Int)+1),_,by rw [HEQ.out (4+(n:Int)+1) (by simp),HTA.out,HTN.out,if_pos ⟨HOK.out,fun _=>⟨HZ0.out,by rw [HD.out];exact HDN.out⟩⟩],⟨HLF.out,by omega⟩,rfl,hvh,HH0.out.st.keep HV.out hx4 ((set4_blk W6 (by have:=HRK.out;omega) _ _ _ _).trans H6.out.st.blk)⟩⟩
         · rintro Wf ⟨e1,e2⟩
           obtain ⟨_,d0,d1,d2,d3⟩:=blk4p e1
           exact bodyPost_ret (v:=.agg #[.int .u64 0,.slice a4 n m4,.slice none 0 0,.bool false]) (by simp [results,Tryd.results106,go_sem,d0,d1,d2,d3]) rfl e2
       · rw [decide_eq_false hdn]
         have HDN:=Lib.hid hdn
         clear hdn
         obtain ⟨_,c0,c1,c2,c3,c4,c5⟩:=blk6 H6.out.st.blk
         have f5:=blk_frozen H6.out.st.blk 5
         have HS7:=Lib.hid ((blk_set H6.out.st.blk 5 (.bool true)).trans rfl)
         have HX7:=Lib.hid (HX6.out.setCell (p:=⟨rk,5,none⟩) (.inl rfl) (.bool true))
         have P27:=Lib.hid (blk_set_ne P26.out (p:=⟨rk,5,none⟩) (by have:=HRK.out;show rk≠_;omega) (.bool true))
         have HLQ:Hid (0≤lenZ zs-(left-(4+(n:Int)+1))∧lenZ zs-(left-(4+(n:Int)+1))≤1000000000000):=Lib.hid (by have:=HLE.out;have:=HI1.out;omega)
         go_upto_region 29 with (fail)
         clear c0 c1 c2 c3 c4 c5 f5
         generalize W6.setCell ⟨rk,5,none⟩ (.bool true)=W7 at *
         obtain ⟨_,u0,u1,u2,u3⟩:=blk4p P27.out
         have p0:=blk_frozen P27.out 0
         have p1:=blk_frozen P27.out 1
         have p2:=blk_frozen P27.out 2
         have p3:=blk_frozen P27.out 3
         go_wp2
         refine post_gen (fun Wf=>Wf.heap[w.heap.size+1]?=some (.cells #[.int .u64 0,.slice a4 n m4,.slice none 0 0,.bool false] 36 (0,0))∧P (.returned (.agg #[.int .u64 0,.slice a4 n m4,.slice none 0 0,.bool false])) Wf) ⟨?_,?_⟩ ?_
         · exact blk_set4 P27.out _ _ _ _
         · rw [HP.out]
           have hx4:=((((HX7.out).setCell (p:=⟨w.heap.size+1,0,none⟩) (.inr (.inr (show w.heap.size≤w.heap.size+1 by omega))) (.int .u64 0)).setCell (p:=⟨w.heap.size+1,1,none⟩) (.inr (.inr (show w.heap.size≤w.heap.size+1 by omega))) (.slice a4 n m4)).setCell (p:=⟨w.heap.size+1,2,none⟩) (.inr (.inr (show w.heap.size≤w.heap.size+1 by omega))) (.slice none 0 0)).setCell (p:=⟨w.heap.size+1,3,none⟩) (.inr (.inr (show w.heap.size≤w.heap.size+1 by omega))) (.bool false)
           exact rdpost_bad (by rw [HEQ.out (4+(n:Int)+1) (by simp),HTA.out,HTN.out,if_neg (fun h=>by have h9:=HDN.out;have h8:=(h.2 (by first|trivial|rfl)).2;rw [HD.out] at h8;omega)]) hx4 (vform _ _ _ _ _ _ _ _) HLQ.out.1 HLQ.out.2 (HH0.out.st.keep HV.out hx4 ((set4_blk W7 (by have:=HRK.out;omega) _ _ _ _).trans HS7.out))
         · rintro Wf ⟨e1,e2⟩
           obtain ⟨_,d0,d1,d2,d3⟩:=blk4p e1
           exact bodyPost_ret (v:=.agg #[.int .u64 0,.slice a4 n m4,.slice none 0 0,.bool false]) (by simp [results,Tryd.results106,go_sem,d0,d1,d2,d3]) rfl e2
     · have hzb:((z0:Int)==0)=false:=by simp;omega
       have HNZ0:=Lib.hid hzz
       clear hzz
       have f5:=blk_frozen H5.out.st.blk 5
       have HS7:=Lib.hid ((blk_set H5.out.st.blk 5 (.bool true)).trans rfl)
       have HX7:=Lib.hid (HX5.out.setCell (p:=⟨rk,5,none⟩) (.inl rfl) (.bool true))
       have P27:=Lib.hid (blk_set_ne P25.out (p:=⟨rk,5,none⟩) (by have:=HRK.out;show rk≠_;omega) (.bool true))
       have HLQ:Hid (0≤lenZ zs-(left-(4+(n:Int)+1))∧lenZ zs-(left-(4+(n:Int)+1))≤1000000000000):=Lib.hid (by have:=HLE.out;have:=HI1.out;omega)
       go_upto_region 29 with (fail)
       clear c0 c1 c2 c3 c4 c5 f5
       generalize W5.setCell ⟨rk,5,none⟩ (.bool true)=W7 at *
       obtain ⟨_,u0,u1,u2,u3⟩:=blk4p P27.out
       have p0:=blk_frozen P27.out 0
       have p1:=blk_frozen P27.out 1
       have p2:=blk_frozen P27.out 2
       have p3:=blk_frozen P27.out 3
       go_wp2
       refine post_gen (fun Wf=>Wf.heap[w.heap.size+1]?=some (.cells #[.int .u64 0,.slice a4 n m4,.slice none 0 0,.bool false] 36 (0,0))∧P (.returned (.agg #[.int .u64 0,.slice a4 n m4,.slice none 0 0,.bool false])) Wf) ⟨?_,?_⟩ ?_
       · exact blk_set4 P27.out _ _ _ _
       · rw [HP.out]
         have hx4:=((((HX7.out).setCell (p:=⟨w.heap.size+1,0,none⟩) (.inr (.inr (show w.heap.size≤w.heap.size+1 by omega))) (.int .u64 0)).setCell (p:=⟨w.heap.size+1,1,none⟩) (.inr (.inr (show w.heap.size≤w.heap.size+1 by omega))) (.slice a4 n m4)).setCell (p:=⟨w.heap.size+1,2,none⟩) (.inr (.inr (show w.heap.size≤w.heap.size+1 by omega))) (.slice none 0 0)).setCell (p:=⟨w.heap.size+1,3,none⟩) (.inr (.inr (show w.heap.size≤w.heap.size+1 by omega))) (.bool false)
         exact rdpost_bad (by rw [HEQ.out (4+(n:Int)+1) (by simp),HTA.out,HTN.out,if_neg (fun h=>by have h9:=HNZ0.out;have h8:=(h.2 (by first|trivial|rfl)).1;rw [HZ0.out] at h8;omega)]) hx4 (vform _ _ _ _ _ _ _ _) HLQ.out.1 HLQ.out.2 (HH0.out.st.keep HV.out hx4 ((set4_blk W7 (by have:=HRK.out;omega) _ _ _ _).trans HS7.out))
       · rintro Wf ⟨e1,e2⟩
         obtain ⟨_,d0,d1,d2,d3⟩:=blk4p e1
         exact bodyPost_ret (v:=.agg #[.int .u64 0,.slice a4 n m4,.slice none 0 0,.bool false]) (by simp [results,Tryd.results106,go_sem,d0,d1,d2,d3]) rfl e2
   · have HNO:=Lib.hid hno
     have HRC:=Lib.hid (And.intro hrc0 hrc1)
     have S4:=Lib.hid hs4
     clear hx4 hs4 hno hrc0 hrc1
     obtain ⟨_,u0,u1,u2,u3⟩:=blk4p P24.out
     have p0:=blk_frozen P24.out 0
     have p1:=blk_frozen P24.out 1
     have p2:=blk_frozen P24.out 2
     have p3:=blk_frozen P24.out 3
     go_wp2
     refine post_gen (fun Wf=>Wf.heap[w.heap.size+1]?=some (.cells #[.int .u64 0,.slice none 0 0,.slice none 0 0,.bool false] 36 (0,0))∧P (.returned (.agg #[.int .u64 0,.slice none 0 0,.slice none 0 0,.bool false])) Wf) ⟨?_,?_⟩ ?_
     · exact blk_set4 P24.out _ _ _ _
     · rw [HP.out]
       have hx4:=((((HX4.out).setCell (p:=⟨w.heap.size+1,0,none⟩) (.inr (.inr (show w.heap.size≤w.heap.size+1 by omega))) (.int .u64 0)).setCell (p:=⟨w.heap.size+1,1,none⟩) (.inr (.inr (show w.heap.size≤w.heap.size+1 by omega))) (.slice none 0 0)).setCell (p:=⟨w.heap.size+1,2,none⟩) (.inr (.inr (show w.heap.size≤w.heap.size+1 by omega))) (.slice none 0 0)).setCell (p:=⟨w.heap.size+1,3,none⟩) (.inr (.inr (show w.heap.size≤w.heap.size+1 by omega))) (.bool false)
       exact rdpost_bad (by rw [HEQ.out (4+(n:Int)+1) (by simp),HTA.out,HNO.out];simp) hx4 (vform _ _ _ _ _ _ _ _) HRC.out.1 HRC.out.2 (HH0.out.st.keep HV.out hx4 ((set4_blk W4 (by have:=HRK.out;omega) _ _ _ _).trans S4.out.blk))
     · rintro Wf ⟨e1,e2⟩
       obtain ⟨_,d0,d1,d2,d3⟩:=blk4p e1
       exact bodyPost_ret (v:=.agg #[.int .u64 0,.slice none 0 0,.slice none 0 0,.bool false]) (by simp [results,Tryd.results106,go_sem,d0,d1,d2,d3]) rfl e2
 · go_wp2_with fail
   refine (reach_ctx H3.out _ (4+(n:Int))).mono ?_
   rintro e W4 ⟨hx4,hr⟩
   have HX4:=Lib.hid (HX3.out.then hx4)
   have P14:=Lib.hid (blk_exw P13.out hx4 (blk_lt P13.out) (by have:=HRK.out;omega) (by have:=HRK.out;omega))
   have P24:=Lib.hid (blk_exw P23.out hx4 (blk_lt P23.out) (by have:=HRK.out;omega) (by have:=HRK.out;omega))
   clear s0 s1 s2 c0 c1 c2 c3 c4 c5
   rcases hr with ⟨hok,rfl,hs4⟩|⟨hno,rfl,rc,hrc0,hrc1,hs4⟩
   · have H4:=Lib.hid (H3.out.exw hx4 hs4 (by have h5:=HLE.out;unfold reachOk at hok;rw [Bool.and_eq_true,decide_eq_true_eq] at hok;omega))
     have HOK:=Lib.hid hok
     have HLF:Hid (0≤left-(4+(n:Int))):=Lib.hid (by unfold reachOk at hok;rw [Bool.and_eq_true,decide_eq_true_eq] at hok;exact hok.2)
     have HTN:Hid ((a:Int).toNat=a):=Lib.hid (Int.toNat_natCast a)
     have hrz:a+4+n≤zs.length:=by
      unfold reachOk at hok
      rw [Bool.and_eq_true] at hok
      have h5:=inZ_iff.1 hok.1
      unfold lenZ at h5
      omega
     clear hx4 hs4 hok
     have hcap:=HI1.out
     have hwa:=IntWalk.i64_in ((a:Int)+4) ⟨by omega,by omega⟩
     have hwb:=IntWalk.i64_in ((a:Int)+4+(n:Int)) ⟨by omega,by omega⟩
     have E1:((a:Int)+4+(n:Int)).toNat-((a:Int)+4).toNat=n:=by omega
     have E2:((a:Int)+4+(n:Int)).toNat=a+4+n:=by omega
     have E3:((a:Int)+4).toNat=a+4:=by omega
     have E4:a+4+n-(a+4)=n:=by omega
     obtain ⟨_,c0,c1,c2,c3,c4,c5⟩:=blk6 H4.out.st.blk
     obtain ⟨_,s0,s1,s2,_⟩:=blk3 P14.out
     have HPB:=Lib.hid (fun V o (hV:Below W4.heap.size W4 V) (ho:0<n→o=off+(a+4))=>part_bytes (n:=n) (a:=a+4) (H4.out.st.bytes.below (Nat.le_refl _) hV) ho (by omega))
     have HPL:=Lib.hid (partZ_length (zs:=zs) (a:=a+4) (n:=n) (by omega))
     have HOWN0:=Lib.hid (own_blk (base:=W4.heap.size) (n:=0) (size:=1) (heap_alloc_new W4 (.cells #[] 5)) (Nat.le_refl _) (by decide) rfl)
     have HA0:=Lib.hid ((Below.refl W4.heap.size W4).alloc (Nat.le_refl _) (.cells #[] 5))
     have hAB:Bytes (W4.alloc (.cells #[] 5)) (if bc=a+4 then some ⟨b,off,none⟩ else some ⟨b,off+(a+4),none⟩) (partZ zs (a+4) n):=by
      split
      · exact HPB.out _ _ HA0.out (fun h=>by omega)
      · exact HPB.out _ _ HA0.out (fun _=>rfl)
     have HAB:=Lib.hid hAB
     have HSRC:=Lib.hid (src_bytes hAB (fun p x hp=>hp) (bc-(a+4)))
     rw [HPL.out] at HSRC
     obtain ⟨i0,hi0,hzz0,hzz1,hzz2⟩:=info_parts u8_infoD
     have I1:=Lib.hid hi0
     have I2:=Lib.hid hzz0
     have I3:=Lib.hid hzz1
     have I4:=Lib.hid hzz2
     clear hi0 hzz0 hzz1 hzz2 hAB
     go_upto_region 27 with (at_builtin;refine wpList_append_first _ rfl (.tmp 113) (.tmp 124) 22 22 rfl W4.heap.size 5 i0 _ 1 Tryd.underlying22 I1.out I2.out I3.out rfl _ rfl HOWN0.out _ n (u8Cells (partZ zs (a+4) n)) rfl HSRC.out (by unfold maxLen;omega) (by rw [I4.out];omega) (by simp) ?_;intro v4 W5 hown4 hg4 hat4;clear hat4;obtain ⟨a4,m4,rfl⟩:=ownsRow_form hown4;have HB5:=Lib.hid (HA0.out.grown hg4 (by simp) (fun k hk=>(ownsRow_lt HOWN0.out k hk).1));have HO5:=Lib.hid hown4;clear hown4 hg4;generalize (if bc=a+4 then (some ⟨b,off,none⟩:Option Addr) else some ⟨b,off+(a+4),none⟩)=AA at *)
     clear s0 s1 s2 c0 c1 c2 c3 c4 c5
     have H5:=Lib.hid (H4.out.below HB5.out)
     have HX5:=Lib.hid (HX4.out.bel HB5.out)
     have P15:=Lib.hid (blk_below P14.out HB5.out (blk_lt P14.out))
     have P25:=Lib.hid (blk_below P24.out HB5.out (blk_lt P24.out))
     have HZP:=Lib.hid (bytes_all HAB.out)
     clear HSRC HOWN0 HA0 I1 I2 I3 I4
     obtain ⟨_,s0,s1,s2,_⟩:=blk3 P15.out
     obtain ⟨_,u0,u1,u2,u3⟩:=blk4p P25.out
     have p0:=blk_frozen P25.out 0
     have p1:=blk_frozen P25.out 1
     have p2:=blk_frozen P25.out 2
     have p3:=blk_frozen P25.out 3
     go_wp2
     refine post_gen (fun Wf=>Wf.heap[w.heap.size+1]?=some (.cells #[.int .u64 0,.slice a4 n m4,.slice none 0 0,.bool false] 36 (0,0))∧P (.returned (.agg #[.int .u64 0,.slice a4 n m4,.slice none 0 0,.bool false])) Wf) ⟨?_,?_⟩ ?_
     · exact blk_set4 P25.out _ _ _ _
     · rw [HP.out]
       have hx4:=((((HX5.out).setCell (p:=⟨w.heap.size+1,0,none⟩) (.inr (.inr (show w.heap.size≤w.heap.size+1 by omega))) (.int .u64 0)).setCell (p:=⟨w.heap.size+1,1,none⟩) (.inr (.inr (show w.heap.size≤w.heap.size+1 by omega))) (.slice a4 n m4)).setCell (p:=⟨w.heap.size+1,2,none⟩) (.inr (.inr (show w.heap.size≤w.heap.size+1 by omega))) (.slice none 0 0)).setCell (p:=⟨w.heap.size+1,3,none⟩) (.inr (.inr (show w.heap.size≤w.heap.size+1 by omega))) (.bool false)
       have hle:=HLE.out
       have hvh:=vh_bytes (S:=newS w.heap.size) (own_set4 (R:=w.heap.size+1) HO5.out (by have:=blk_lt P24.out;omega) (.int .u64 0) (.slice a4 n m4) (.slice none 0 0) (.bool false)) HZP.out (fun k hk=>by have:=blk_lt P24.out;unfold newS;simp;omega)
       exact ⟨hx4,.inl ⟨_,left-(4+(n:Int)),_,by rw [HEQ.out (4+(n:Int)) (by simp),HTA.out,HTN.out,if_pos ⟨HOK.out,fun h=>by cases h⟩],⟨HLF.out,by omega⟩,rfl,hvh,HH0.out.st.keep HV.out hx4 ((set4_blk W5 (by have:=HRK.out;omega) _ _ _ _).trans H5.out.st.blk)⟩⟩
     · rintro Wf ⟨e1,e2⟩
       obtain ⟨_,d0,d1,d2,d3⟩:=blk4p e1
       exact bodyPost_ret (v:=.agg #[.int .u64 0,.slice a4 n m4,.slice none 0 0,.bool false]) (by simp [results,Tryd.results106,go_sem,d0,d1,d2,d3]) rfl e2
   · have HNO:=Lib.hid hno
     have HRC:=Lib.hid (And.intro hrc0 hrc1)
     have S4:=Lib.hid hs4
     clear hx4 hs4 hno hrc0 hrc1
     obtain ⟨_,u0,u1,u2,u3⟩:=blk4p P24.out
     have p0:=blk_frozen P24.out 0
     have p1:=blk_frozen P24.out 1
     have p2:=blk_frozen P24.out 2
     have p3:=blk_frozen P24.out 3
     go_wp2
     refine post_gen (fun Wf=>Wf.heap[w.heap.size+1]?=some (.cells #[.int .u64 0,.slice none 0 0,.slice none 0 0,.bool false] 36 (0,0))∧P (.returned (.agg #[.int .u64 0,.slice none 0 0,.slice none 0 0,.bool false])) Wf) ⟨?_,?_⟩ ?_
     · exact blk_set4 P24.out _ _ _ _
     · rw [HP.out]
       have hx4:=((((HX4.out).setCell (p:=⟨w.heap.size+1,0,none⟩) (.inr (.inr (show w.heap.size≤w.heap.size+1 by omega))) (.int .u64 0)).setCell (p:=⟨w.heap.size+1,1,none⟩) (.inr (.inr (show w.heap.size≤w.heap.size+1 by omega))) (.slice none 0 0)).setCell (p:=⟨w.heap.size+1,2,none⟩) (.inr (.inr (show w.heap.size≤w.heap.size+1 by omega))) (.slice none 0 0)).setCell (p:=⟨w.heap.size+1,3,none⟩) (.inr (.inr (show w.heap.size≤w.heap.size+1 by omega))) (.bool false)
       exact rdpost_bad (by rw [HEQ.out (4+(n:Int)) (by simp),HTA.out,HNO.out];simp) hx4 (vform _ _ _ _ _ _ _ _) HRC.out.1 HRC.out.2 (HH0.out.st.keep HV.out hx4 ((set4_blk W4 (by have:=HRK.out;omega) _ _ _ _).trans S4.out.blk))
     · rintro Wf ⟨e1,e2⟩
       obtain ⟨_,d0,d1,d2,d3⟩:=blk4p e1
       exact bodyPost_ret (v:=.agg #[.int .u64 0,.slice none 0 0,.slice none 0 0,.bool false]) (by simp [results,Tryd.results106,go_sem,d0,d1,d2,d3]) rfl e2
end Go.Proofs.YtcfjjocmiheiaaaDoor
