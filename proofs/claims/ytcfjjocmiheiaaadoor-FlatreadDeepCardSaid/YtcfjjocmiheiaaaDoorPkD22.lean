/-
  The document's own reading of tables: a number. Conditions: those that each theorem names.
-/
import Derived.Test.YtcfjjocmiheiaaaDoorPkD52
import Derived.Test.YtcfjjocmiheiaaaDoorPkD9
import Derived.Test.YtcfjjocmiheiaaaDoorPkD19
namespace Go.Proofs.YtcfjjocmiheiaaaDoor
open Go.ChangeShapes Go.WideShapes Go.ChangeAt Go.RowKit Go.Shelf
set_option maxRecDepth 100000 in
set_option maxHeartbeats 8000000 in
theorem rdval_in (w:World){base:Nat}{ss:List (CRec × Value)}{es:List (SCho × Value)}{rk:Nat}{sv ev:Value}{root:Int}{bp:Option Addr}{bc:Nat}{zs:List Int}{left:Int}(h:RdSt w rk sv ev root bp bc zs (lenZ zs-left) false)(hv:RowV sv∧RowV ev)(hR:∀ W,Exw rk rk w.heap.size w W→CRows base W ss es sv ev)(hl:0≤left∧left≤lenZ zs)(k r:Nat)(at' dp:Int)(hk:0<kSize k)(hk255:k≤10)(hin:inZ (lenZ zs) at' (kSize k)=true) :
  Calls Tryd.prog 106 #[.pointer (some ⟨rk,0,none⟩),.agg #[.int .u8 k,.int .i64 r,.int .i64 0],.int .i64 at',.int .i64 dp] w (RdPost (numZ (es.map Prod.fst) zs k r at' left) w rk sv ev root bp bc zs):=by
 obtain ⟨hb,hq1,hq2⟩:=two_start w #[.int .u8 k,.int .i64 r,.int .i64 0] #[.int .u64 0,.slice none 0 0,.slice none 0 0,.bool false] 50 36
 have HB:=Lib.hid hb
 have HQ1:=Lib.hid hq1
 have HQ2:=Lib.hid hq2
 have H0:=Lib.hid (h.below hb)
 have HV:=Lib.hid hv
 have HH0:=Lib.hid h
 have HRR:=Lib.hid hR
 have HRK:Hid (rk<w.heap.size):=Lib.hid (blk_lt h.blk)
 have HRES:=Lib.hid (numZ_eq (es:=es.map Prod.fst) (ref:=r) (left:=left) hk hin)
 have HNT:Hid (∀ W,Calls Tryd.prog 38 #[.agg #[.int .u8 k,.int .i64 r,.int .i64 0]] W fun e w'=>e=.returned (.bool true)∧Below W.heap.size W w'):=Lib.hid (fun W=>by
  have h5:=rnumI_any k (by omega) r 0 W
  rw [show numTB k 0=true from by unfold numTB;rw [decide_eq_true hk];rfl] at h5
  exact h5)
 have HWI:=Lib.hid (fun W=>(by have h5:=rwithin_opt (zs.length:Int) at' (kSize k) W (by omega) (by have:=h.len;omega);rw [show inZ (zs.length:Int) at' (kSize k)=true from hin] at h5;exact h5:Calls Tryd.prog 131 #[.int .i64 (zs.length:Int),.int .i64 at',.int .i64 (kSize k)] W fun e w'=>e=.returned (.bool true)∧W=w'))
 have HSZ:=Lib.hid (fun W=>rsize_any k W)
 have HSG:=Lib.hid (fun W=>rsign_any k W)
 have HL0:=Lib.hid hl
 have HLL:Hid (0≤lenZ zs-left∧lenZ zs-left≤1000000000000):=Lib.hid (by have:=h.len;unfold lenZ at *;omega)
 have hw8:=IntWalk.i64_in (k:Int) ⟨by omega,by omega⟩
 have hlen:=h.len
 have hcap:=h.cap
 have h1:=inZ_iff.1 hin
 change 0≤at'∧0≤kSize k∧kSize k≤(zs.length:Int)-at' at h1
 have hne:zs≠[]:=fun e=>by subst e;simp at h1;omega
 obtain ⟨b,off,rfl,_,hc⟩:=h.bytes.2 hne
 obtain ⟨a,rfl⟩:∃ a:Nat,at'=a:=⟨at'.toNat,by omega⟩
 have hzb:=h.bytes.1
 obtain ⟨s,hs,hss⟩:=ksize_is hk
 have hbd:=numAt_bd (at':=(a:Int)) hzb hk
 have hld:ldO zs (a:Int) s=leAt zs a s:=by unfold ldO;rw [←hs,if_pos hin,Int.toNat_natCast]
 have hna:numAt zs k (a:Int)=if kSign k=true then sgnOf (leAt zs a s) s else leAt zs a s:=by unfold numAt;rw [hs,Int.toNat_natCast,hld]
 have hzbd:0≤leAt zs a s∧leAt zs a s≤18446744073709551615:=by
  have h2:=leAt_1 zs a hzb
  have h3:=leAt_2 zs a hzb
  have h4:=leAt_4 zs a hzb
  have h5:=leAt_8 zs a hzb
  rcases hss with rfl|rfl|rfl|rfl<;>omega
 obtain ⟨N,hN⟩:∃ N:Nat,numAt zs k (a:Int)=N:=⟨(numAt zs k a).toNat,by omega⟩
 rw [hN] at HRES hna hbd
 rw [Int.toNat_natCast] at HRES
 have HSI:=Lib.hid (fun W=>rsigned_any (leAt zs a s) s W hzbd.1 hzbd.2)
 have HNU:Hid (∀ W,(∀ i,i<s→W.cell? ⟨b,off+a+i,none⟩=some (.int .u8 (zs.getD (a+i) 0)))→∀ n cap,n=s→Calls Tryd.prog 132 #[.slice (some ⟨b,off+a,none⟩) n cap] W fun e w'=>e=.returned (.int .u64 (leAt zs a s))∧W=w'):=Lib.hid (fun W hW n cap hn=>by
  subst hn
  exact rnum_any b (off+a) n cap W (fun i=>zs.getD (a+i) 0) (by omega) hW (fun i _=>hzb _))
 have HCL:Hid (∀ W,Below w.heap.size w W→∀ i,i<s→W.cell? ⟨b,off+a+i,none⟩=some (.int .u8 (zs.getD (a+i) 0))):=Lib.hid (fun W hW i hi=>by
  have h5:=hc (a+i) (by omega)
  rw [←Nat.add_assoc] at h5
  exact cell_stays hW h5)
 have HFT:Hid (∀ W,Below w.heap.size w W→Calls Tryd.prog 83 #[.agg #[sv,ev,.int .i64 root],.agg #[.int .u8 k,.int .i64 r,.int .i64 0],.int .u64 N] W fun e w'=>e=.returned (.bool (fitsT (es.map Prod.fst) k r 0 N))∧Below W.heap.size W w'):=Lib.hid (fun W hW=>rfits_any W root (hR W (Exw.of_below hW)) k r 0 N (by omega) (by omega))
 have hw1:=IntWalk.i64_in ((a:Int)+s) ⟨by omega,by omega⟩
 have hs1:1≤s:=by omega
 rw [hs] at HSZ HWI
 rw [hs] at h1
 have HNB:Hid (N≤18446744073709551615):=Lib.hid (by omega)
 have E1:((a:Int)+s).toNat-(a:Int).toNat=s:=by omega
 have E2:((a:Int)+s).toNat=a+s:=by omega
 have E3:a+s-a=s:=by omega
 obtain ⟨P,hP⟩:∃ P,RdPost (numZ (es.map Prod.fst) zs k r a left) w rk sv ev root (some ⟨b,off,none⟩) bc zs=P:=⟨_,rfl⟩
 rw [hP]
 have HP:=Lib.hid hP.symm
 clear hb hq1 hq2 h hv hP hin hR hc hzb hld hN hl hss hs hk hbd hzbd
 generalize fitsT (es.map Prod.fst) k r 0 N=ft at *
 generalize leAt zs a s=z at *
 obtain ⟨rc,hrc⟩:∃ rc,lenZ zs-left=rc:=⟨_,rfl⟩
 rw [hrc] at H0 HH0 HLL
 have HRC:=Lib.hid hrc
 clear hrc
 go_enter Tryd.func106,Tryd.ntmps106
 go_upto_region 1 with (fail)
 generalize (w.alloc (.cells #[.int .u8 k,.int .i64 r,.int .i64 0] 50)).alloc (.cells #[.int .u64 0,.slice none 0 0,.slice none 0 0,.bool false] 36)=W0 at *
 obtain ⟨_,c0,c1,c2,c3,c4,c5⟩:=blk6 H0.out.blk
 obtain ⟨_,s0,s1,s2,_⟩:=blk3 HQ1.out
 go_wp2_with fail
 refine (HNT.out _).mono ?_
 rintro e W1 ⟨rfl,hb1⟩
 have HB1:=Lib.hid (HB.out.trans (hb1.mono HB.out.size))
 have H1:=Lib.hid (H0.out.below hb1)
 have P1:=Lib.hid (blk_below HQ1.out hb1 (blk_lt HQ1.out))
 have P2:=Lib.hid (blk_below HQ2.out hb1 (blk_lt HQ2.out))
 clear hb1 c0 c1 c2 c3 c4 c5 s0 s1 s2
 obtain ⟨_,c0,c1,c2,c3,c4,c5⟩:=blk6 H1.out.blk
 obtain ⟨_,s0,s1,s2,_⟩:=blk3 P1.out
 go_wp2_with fail
 refine (HSZ.out _).mono ?_
 rintro e _ ⟨rfl,rfl⟩
 go_wp2_with fail
 refine (HWI.out _).mono ?_
 rintro e _ ⟨rfl,rfl⟩
 go_wp2_with fail
 refine (HNU.out _ (HCL.out _ HB1.out) _ _ ?_).mono ?_
 · omega
 rintro e _ ⟨rfl,rfl⟩
 go_wp2_with fail
 refine (HSG.out _).mono ?_
 rintro e _ ⟨rfl,rfl⟩
 generalize kSign k=sg at *
 cases sg with
 | true =>
  rw [if_pos rfl] at hna
  rw [←hna] at HSI
  clear hna
  go_wp2_with fail
  refine (HSI.out _).mono ?_
  rintro e _ ⟨rfl,rfl⟩
  go_upto_region 11 with (fail)
  have s3:=c0
  have s4:=c1
  have s5:=c2
  clear c0 c1 c2 c3 c4 c5
  refine wp_region_noPanic ?_
  refine wp_region_held_drew (S:=(fun w'=>w'.cell? ⟨w.heap.size,0,none⟩=some (.int .u8 k)∧w'.cell? ⟨w.heap.size,1,none⟩=some (.int .i64 r)∧w'.cell? ⟨w.heap.size,2,none⟩=some (.int .i64 0)∧w'.cell? ⟨rk,0,none⟩=some (sv)∧w'.cell? ⟨rk,1,none⟩=some (ev)∧w'.cell? ⟨rk,2,none⟩=some (.int .i64 root))) (by kernel_rfl) ⟨s0,s1,s2,s3,s4,s5⟩ ?_
  intro hS
  refine tk 0 (.pointer (some ⟨rk,0,none⟩)) hS ?_ ?_
  · rintro w' ⟨s0,s1,s2,s3,s4,s5⟩
    go_simp
  simp only [td]
  refine tk 1 (.pointer (some ⟨rk,0,none⟩)) hS ?_ ?_
  · rintro w' ⟨s0,s1,s2,s3,s4,s5⟩
    go_simp
  simp only [td]
  refine tk 2 (.pointer (some ⟨rk,0,none⟩)) hS ?_ ?_
  · rintro w' ⟨s0,s1,s2,s3,s4,s5⟩
    go_simp
  simp only [td]
  refine tk 3 (.agg #[sv,ev,.int .i64 root]) hS ?_ ?_
  · rintro w' ⟨s0,s1,s2,s3,s4,s5⟩
    go_simp
  simp only [td]
  refine tk 4 (.agg #[.int .u8 k,.int .i64 r,.int .i64 0]) hS ?_ ?_
  · rintro w' ⟨s0,s1,s2,s3,s4,s5⟩
    go_simp
  simp only [td]
  refine tk 5 (.int .u64 N) hS ?_ ?_
  · rintro w' ⟨s0,s1,s2,s3,s4,s5⟩
    go_simp
  simp only [td]
  refine wpAnyH_ready (rs:=[6]) (by kernel_rfl) (by decide) (AllReadyH.cons rfl (fun K hK=>?_) AllReadyH.nil)
  rw [if_pos (by kernel_rfl)]
  go_simp
  refine (HFT.out W1.drew (HB1.out.trans (Below.mono ((Below.refl _ W1).drew) HB1.out.size))).mono ?_
  rintro e Wh1 ⟨rfl,hb1⟩
  have hx1:Below W1.heap.size W1 Wh1:=(Below.refl _ W1).drew.trans hb1
  have ns0:=cell_stays hx1 s0
  have ns1:=cell_stays hx1 s1
  have ns2:=cell_stays hx1 s2
  have ns3:=cell_stays hx1 s3
  have ns4:=cell_stays hx1 s4
  have ns5:=cell_stays hx1 s5
  refine hK.out _ _ ⟨ns0,ns1,ns2,ns3,ns4,ns5⟩ (fun hS=>?_)
  clear ns0 ns1 ns2 ns3 ns4 ns5
  refine tk 7 (.bool (!ft)) hS ?_ ?_
  · rintro w' ⟨s0,s1,s2,s3,s4,s5⟩
    go_simp
  simp only [td]
  refine wpAnyH_done (by kernel_rfl) ?_ _
  refine NoPanic.normal ?_
  try simp only [Exit.then]
  have HB2:=Lib.hid (HB1.out.trans (hx1.mono HB1.out.size))
  have H2:=Lib.hid (H1.out.below hx1)
  have P22:=Lib.hid (blk_below P2.out hx1 (blk_lt P2.out))
  clear hS s0 s1 s2 s3 s4 s5 hx1 hb1
  obtain ⟨_,c0,c1,c2,c3,c4,c5⟩:=blk6 H2.out.blk
  have f5:=blk_frozen H2.out.blk 5
  cases ft with
  | true =>
   obtain ⟨_,u0,u1,u2,u3⟩:=blk4p P22.out
   have p0:=blk_frozen P22.out 0
   have p1:=blk_frozen P22.out 1
   have p2:=blk_frozen P22.out 2
   have p3:=blk_frozen P22.out 3
   go_wp2
   refine post_gen (fun Wf=>Wf.heap[w.heap.size+1]?=some (.cells #[.int .u64 N,.slice none 0 0,.slice none 0 0,.bool false] 36 (0,0))∧P (.returned (.agg #[.int .u64 N,.slice none 0 0,.slice none 0 0,.bool false])) Wf) ⟨?_,?_⟩ ?_
   · exact blk_set4 P22.out _ _ _ _
   · rw [HP.out,HRES.out,if_pos trivial]
     have hx:Exw rk rk w.heap.size w Wh1:=Exw.of_below HB2.out
     have hx4:=(((hx.setCell (p:=⟨w.heap.size+1,0,none⟩) (.inr (.inr (Nat.le_succ _))) (.int .u64 N)).setCell (p:=⟨w.heap.size+1,1,none⟩) (.inr (.inr (Nat.le_succ _))) (.slice none 0 0)).setCell (p:=⟨w.heap.size+1,2,none⟩) (.inr (.inr (Nat.le_succ _))) (.slice none 0 0)).setCell (p:=⟨w.heap.size+1,3,none⟩) (.inr (.inr (Nat.le_succ _))) (.bool false)
     refine ⟨hx4,.inl ⟨numV N,left,_,rfl,?_,rfl,vh_num _ _ N (by have:=HNB.out;omega),?_⟩⟩
     · have h8:=HLL.out;exact HL0.out
     · rw [HRC.out]
       exact HH0.out.keep HV.out hx4 ((set4_blk Wh1 (by have:=HRK.out;omega) _ _ _ _).trans H2.out.blk)
   · rintro Wf ⟨e1,e2⟩
     obtain ⟨_,d0,d1,d2,d3⟩:=blk4p e1
     exact bodyPost_ret (v:=.agg #[.int .u64 N,.slice none 0 0,.slice none 0 0,.bool false]) (by simp [results,Tryd.results106,go_sem,d0,d1,d2,d3]) rfl e2
  | false =>
   have HX2:=Lib.hid ((Exw.refl rk rk Wh1.heap.size Wh1).setCell (p:=⟨rk,5,none⟩) (.inl rfl) (.bool true))
   have HS2:=Lib.hid ((blk_set H2.out.blk 5 (.bool true)).trans rfl)
   have P23:=Lib.hid (blk_set_ne P22.out (p:=⟨rk,5,none⟩) (by have:=HRK.out;show rk≠_;omega) (.bool true))
   go_upto_region 13 with (fail)
   clear c0 c1 c2 c3 c4 c5 f5
   generalize Wh1.setCell ⟨rk,5,none⟩ (.bool true)=W2 at *
   obtain ⟨_,u0,u1,u2,u3⟩:=blk4p P23.out
   have p0:=blk_frozen P23.out 0
   have p1:=blk_frozen P23.out 1
   have p2:=blk_frozen P23.out 2
   have p3:=blk_frozen P23.out 3
   go_wp2
   refine post_gen (fun Wf=>Wf.heap[w.heap.size+1]?=some (.cells #[.int .u64 N,.slice none 0 0,.slice none 0 0,.bool false] 36 (0,0))∧P (.returned (.agg #[.int .u64 N,.slice none 0 0,.slice none 0 0,.bool false])) Wf) ⟨?_,?_⟩ ?_
   · exact blk_set4 P23.out _ _ _ _
   · rw [HP.out,HRES.out,if_neg (by decide)]
     have hx:Exw rk rk w.heap.size w W2:=(Exw.of_below HB2.out).trans (HX2.out.mono HB2.out.size)
     have hx4:=(((hx.setCell (p:=⟨w.heap.size+1,0,none⟩) (.inr (.inr (Nat.le_succ _))) (.int .u64 N)).setCell (p:=⟨w.heap.size+1,1,none⟩) (.inr (.inr (Nat.le_succ _))) (.slice none 0 0)).setCell (p:=⟨w.heap.size+1,2,none⟩) (.inr (.inr (Nat.le_succ _))) (.slice none 0 0)).setCell (p:=⟨w.heap.size+1,3,none⟩) (.inr (.inr (Nat.le_succ _))) (.bool false)
     exact ⟨hx4,.inr ⟨rfl,⟨_,rfl,vform _ _ _ _ _ _ _ _⟩,rc,HLL.out.1,HLL.out.2,HH0.out.keep HV.out hx4 ((set4_blk W2 (by have:=HRK.out;omega) _ _ _ _).trans HS2.out)⟩⟩
   · rintro Wf ⟨e1,e2⟩
     obtain ⟨_,d0,d1,d2,d3⟩:=blk4p e1
     exact bodyPost_ret (v:=.agg #[.int .u64 N,.slice none 0 0,.slice none 0 0,.bool false]) (by simp [results,Tryd.results106,go_sem,d0,d1,d2,d3]) rfl e2
 | false =>
  rw [if_neg (by decide)] at hna
  subst hna
  go_upto_region 11 with (fail)
  have s3:=c0
  have s4:=c1
  have s5:=c2
  clear c0 c1 c2 c3 c4 c5
  refine wp_region_noPanic ?_
  refine wp_region_held_drew (S:=(fun w'=>w'.cell? ⟨w.heap.size,0,none⟩=some (.int .u8 k)∧w'.cell? ⟨w.heap.size,1,none⟩=some (.int .i64 r)∧w'.cell? ⟨w.heap.size,2,none⟩=some (.int .i64 0)∧w'.cell? ⟨rk,0,none⟩=some (sv)∧w'.cell? ⟨rk,1,none⟩=some (ev)∧w'.cell? ⟨rk,2,none⟩=some (.int .i64 root))) (by kernel_rfl) ⟨s0,s1,s2,s3,s4,s5⟩ ?_
  intro hS
  refine tk 0 (.pointer (some ⟨rk,0,none⟩)) hS ?_ ?_
  · rintro w' ⟨s0,s1,s2,s3,s4,s5⟩
    go_simp
  simp only [td]
  refine tk 1 (.pointer (some ⟨rk,0,none⟩)) hS ?_ ?_
  · rintro w' ⟨s0,s1,s2,s3,s4,s5⟩
    go_simp
  simp only [td]
  refine tk 2 (.pointer (some ⟨rk,0,none⟩)) hS ?_ ?_
  · rintro w' ⟨s0,s1,s2,s3,s4,s5⟩
    go_simp
  simp only [td]
  refine tk 3 (.agg #[sv,ev,.int .i64 root]) hS ?_ ?_
  · rintro w' ⟨s0,s1,s2,s3,s4,s5⟩
    go_simp
  simp only [td]
  refine tk 4 (.agg #[.int .u8 k,.int .i64 r,.int .i64 0]) hS ?_ ?_
  · rintro w' ⟨s0,s1,s2,s3,s4,s5⟩
    go_simp
  simp only [td]
  refine tk 5 (.int .u64 N) hS ?_ ?_
  · rintro w' ⟨s0,s1,s2,s3,s4,s5⟩
    go_simp
  simp only [td]
  refine wpAnyH_ready (rs:=[6]) (by kernel_rfl) (by decide) (AllReadyH.cons rfl (fun K hK=>?_) AllReadyH.nil)
  rw [if_pos (by kernel_rfl)]
  go_simp
  refine (HFT.out W1.drew (HB1.out.trans (Below.mono ((Below.refl _ W1).drew) HB1.out.size))).mono ?_
  rintro e Wh1 ⟨rfl,hb1⟩
  have hx1:Below W1.heap.size W1 Wh1:=(Below.refl _ W1).drew.trans hb1
  have ns0:=cell_stays hx1 s0
  have ns1:=cell_stays hx1 s1
  have ns2:=cell_stays hx1 s2
  have ns3:=cell_stays hx1 s3
  have ns4:=cell_stays hx1 s4
  have ns5:=cell_stays hx1 s5
  refine hK.out _ _ ⟨ns0,ns1,ns2,ns3,ns4,ns5⟩ (fun hS=>?_)
  clear ns0 ns1 ns2 ns3 ns4 ns5
  refine tk 7 (.bool (!ft)) hS ?_ ?_
  · rintro w' ⟨s0,s1,s2,s3,s4,s5⟩
    go_simp
  simp only [td]
  refine wpAnyH_done (by kernel_rfl) ?_ _
  refine NoPanic.normal ?_
  try simp only [Exit.then]
  have HB2:=Lib.hid (HB1.out.trans (hx1.mono HB1.out.size))
  have H2:=Lib.hid (H1.out.below hx1)
  have P22:=Lib.hid (blk_below P2.out hx1 (blk_lt P2.out))
  clear hS s0 s1 s2 s3 s4 s5 hx1 hb1
  obtain ⟨_,c0,c1,c2,c3,c4,c5⟩:=blk6 H2.out.blk
  have f5:=blk_frozen H2.out.blk 5
  cases ft with
  | true =>
   obtain ⟨_,u0,u1,u2,u3⟩:=blk4p P22.out
   have p0:=blk_frozen P22.out 0
   have p1:=blk_frozen P22.out 1
   have p2:=blk_frozen P22.out 2
   have p3:=blk_frozen P22.out 3
   go_wp2
   refine post_gen (fun Wf=>Wf.heap[w.heap.size+1]?=some (.cells #[.int .u64 N,.slice none 0 0,.slice none 0 0,.bool false] 36 (0,0))∧P (.returned (.agg #[.int .u64 N,.slice none 0 0,.slice none 0 0,.bool false])) Wf) ⟨?_,?_⟩ ?_
   · exact blk_set4 P22.out _ _ _ _
   · rw [HP.out,HRES.out,if_pos trivial]
     have hx:Exw rk rk w.heap.size w Wh1:=Exw.of_below HB2.out
     have hx4:=(((hx.setCell (p:=⟨w.heap.size+1,0,none⟩) (.inr (.inr (Nat.le_succ _))) (.int .u64 N)).setCell (p:=⟨w.heap.size+1,1,none⟩) (.inr (.inr (Nat.le_succ _))) (.slice none 0 0)).setCell (p:=⟨w.heap.size+1,2,none⟩) (.inr (.inr (Nat.le_succ _))) (.slice none 0 0)).setCell (p:=⟨w.heap.size+1,3,none⟩) (.inr (.inr (Nat.le_succ _))) (.bool false)
     refine ⟨hx4,.inl ⟨numV N,left,_,rfl,?_,rfl,vh_num _ _ N (by have:=HNB.out;omega),?_⟩⟩
     · have h8:=HLL.out;exact HL0.out
     · rw [HRC.out]
       exact HH0.out.keep HV.out hx4 ((set4_blk Wh1 (by have:=HRK.out;omega) _ _ _ _).trans H2.out.blk)
   · rintro Wf ⟨e1,e2⟩
     obtain ⟨_,d0,d1,d2,d3⟩:=blk4p e1
     exact bodyPost_ret (v:=.agg #[.int .u64 N,.slice none 0 0,.slice none 0 0,.bool false]) (by simp [results,Tryd.results106,go_sem,d0,d1,d2,d3]) rfl e2
  | false =>
   have HX2:=Lib.hid ((Exw.refl rk rk Wh1.heap.size Wh1).setCell (p:=⟨rk,5,none⟩) (.inl rfl) (.bool true))
   have HS2:=Lib.hid ((blk_set H2.out.blk 5 (.bool true)).trans rfl)
   have P23:=Lib.hid (blk_set_ne P22.out (p:=⟨rk,5,none⟩) (by have:=HRK.out;show rk≠_;omega) (.bool true))
   go_upto_region 13 with (fail)
   clear c0 c1 c2 c3 c4 c5 f5
   generalize Wh1.setCell ⟨rk,5,none⟩ (.bool true)=W2 at *
   obtain ⟨_,u0,u1,u2,u3⟩:=blk4p P23.out
   have p0:=blk_frozen P23.out 0
   have p1:=blk_frozen P23.out 1
   have p2:=blk_frozen P23.out 2
   have p3:=blk_frozen P23.out 3
   go_wp2
   refine post_gen (fun Wf=>Wf.heap[w.heap.size+1]?=some (.cells #[.int .u64 N,.slice none 0 0,.slice none 0 0,.bool false] 36 (0,0))∧P (.returned (.agg #[.int .u64 N,.slice none 0 0,.slice none 0 0,.bool false])) Wf) ⟨?_,?_⟩ ?_
   · exact blk_set4 P23.out _ _ _ _
   · rw [HP.out,HRES.out,if_neg (by decide)]
     have hx:Exw rk rk w.heap.size w W2:=(Exw.of_below HB2.out).trans (HX2.out.mono HB2.out.size)
     have hx4:=(((hx.setCell (p:=⟨w.heap.size+1,0,none⟩) (.inr (.inr (Nat.le_succ _))) (.int .u64 N)).setCell (p:=⟨w.heap.size+1,1,none⟩) (.inr (.inr (Nat.le_succ _))) (.slice none 0 0)).setCell (p:=⟨w.heap.size+1,2,none⟩) (.inr (.inr (Nat.le_succ _))) (.slice none 0 0)).setCell (p:=⟨w.heap.size+1,3,none⟩) (.inr (.inr (Nat.le_succ _))) (.bool false)
     exact ⟨hx4,.inr ⟨rfl,⟨_,rfl,vform _ _ _ _ _ _ _ _⟩,rc,HLL.out.1,HLL.out.2,HH0.out.keep HV.out hx4 ((set4_blk W2 (by have:=HRK.out;omega) _ _ _ _).trans HS2.out)⟩⟩
   · rintro Wf ⟨e1,e2⟩
     obtain ⟨_,d0,d1,d2,d3⟩:=blk4p e1
     exact bodyPost_ret (v:=.agg #[.int .u64 N,.slice none 0 0,.slice none 0 0,.bool false]) (by simp [results,Tryd.results106,go_sem,d0,d1,d2,d3]) rfl e2
end Go.Proofs.YtcfjjocmiheiaaaDoor
